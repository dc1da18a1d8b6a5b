import PyProof.Rows.All
import Wide.All
import OpenK.AllK
import Wide.FinOn
import HandS.ForMost
import HandS.Wide
import HandS.Walk
import HandS.Flow
import HandS.Conv
import HandS.IsInst
import HandS.DictComp
import HandS.TupLen
import HandS.Lambda
import HandS.ExcInit
import HandS.Exc
import HandS.WordsExc
import HandS.Small
import HandS.OwnEq
import HandS.HeadHook2
import HandS.ExcField
import HandS.TryMany
import KE.KDictPairs
import KE.KDictCopyH
import KE.KEqDict
import PyProof.DictCompW
import PyProof.ListNew
import PyProof.WalksEnum
import HandS.ListItems
import KE.GoesEnum
import KE.LtData
import PyProof.InstNe
import HandS.TupAny
import HandS.DictTup
import HandS.Style
import HandS.Head0
import HandS.Head1
import HandS.Head2
import HandS.HeadEnd
import HandS.HeadHook3
import HandS.HeadHook4
import HandS.HeadWalk
import PySem.Challenge.RW_rowsintime_k05_whole_within_and_spread
set_option Elab.async false
set_option linter.all false
set_option maxRecDepth 100000
set_option maxHeartbeats 4000000
namespace Rw
open PySem L2
def top (i : Nat) : Stmt := PySem.Challenge.pw_rowsintime_k05_whole_within_and_spread.main.body.getD i (.Pass ⟨0, 0, 0, 0⟩)
abbrev sCell : Stmt := top 44
abbrev sPool : Stmt := top 45
abbrev sTake : Stmt := top 46
abbrev sMixed : Stmt := top 47
abbrev sOne : Stmt := top 49
/-! ### heaps: what stays -/
theorem same_new {H : Hp} {p : Addr} (h : H p = none) (o : HO) : Same H (upd H p o) := fun b u q => by rw [upd_ne (ne_of_none q h)]; exact q
/-- all but what stands at p is as it was -/
def But (p : Addr) (H H' : Hp) : Prop := ∀ b o, H b = some o → b ≠ p → H' b = some o
theorem But.refl {p : Addr} {H : Hp} : But p H H := fun _ _ h _ => h
theorem But.trans {p : Addr} {H H1 H2 : Hp} (a : But p H H1) (b : But p H1 H2) : But p H H2 := fun c o h n => b c o (a c o h n) n
theorem But.of {p : Addr} {H H' : Hp} (a : Same H H') : But p H H' := fun b o h _ => a b o h
theorem But.new {p q : Addr} {H H' : Hp} {o : HO} (a : But p H H') (h : H' q = none) : But p H (upd H' q o) := fun b u e n => by
  have e1 := a b u e n
  rw [upd_ne (ne_of_none e1 h)]
  exact e1
theorem But.put {p : Addr} {H H' : Hp} {o : HO} (a : But p H H') : But p H (upd H' p o) := fun b u e n => by
  rw [upd_ne n]
  exact a b u e n
/-- an object that H does not know may change -/
theorem But.mut {p q : Addr} {H H' : Hp} {o : HO} (a : But p H H') (h : H q = none) : But p H (upd H' q o) := fun b u e n => by
  rw [upd_ne (ne_of_none e h)]
  exact a b u e n
theorem But.none {p q : Addr} {H H' : Hp} (a : But p H H') (h : H' q = none) (n : q ≠ p) : H q = none := by
  cases e : H q with
  | none => rfl
  | some o => rw [a q o e n] at h; cases h
theorem But.sqL {p a : Addr} {K : PySem.W.Frag} {H H' : Hp} {xs : List V} (b : But p H H') (h : SqL K H a xs) (n : a ≠ p) : SqL K H' a xs := by
  rcases h with (h | ⟨o, h⟩) | h
  · exact .inl (.inl (b _ _ h n))
  · exact .inl (.inr ⟨o, b _ _ h n⟩)
  · exact .inr h
theorem But.sqT {p a : Addr} {K : PySem.W.Frag} {H H' : Hp} {xs : List V} (b : But p H H') (h : SqT K H a xs) (n : a ≠ p) : SqT K H' a xs := by
  rcases h with (h | ⟨o, h⟩) | h
  · exact .inl (.inl (b _ _ h n))
  · exact .inl (.inr ⟨o, b _ _ h n⟩)
  · exact .inr h
/-! ### the pool of draws: a list of three ints -/
def Pool (H : Hp) (p : Addr) (n : Nat) : Prop := ∃ a b c : Int, H p = some (.lst [.int a, .int b, .int c]) ∧ 0 ≤ b ∧ b < 1000000007 ∧ 0 ≤ c ∧ c ≤ (n : Int)
theorem Pool.some {H : Hp} {p : Addr} {n : Nat} (h : Pool H p n) : ∃ xs, H p = some (.lst xs) := by
  obtain ⟨a, b, c, e, _⟩ := h
  exact ⟨_, e⟩
theorem Pool.mono {H : Hp} {p : Addr} {n m : Nat} (h : Pool H p n) (l : n ≤ m) : Pool H p m := by
  obtain ⟨a, b, c, e, h1, h2, h3, h4⟩ := h
  exact ⟨a, b, c, e, h1, h2, h3, by omega⟩
theorem Pool.new {H : Hp} {p q : Addr} {n : Nat} {o : HO} (h : Pool H p n) (hq : H q = Option.none) : Pool (upd H q o) p n := by
  obtain ⟨a, b, c, e, h1⟩ := h
  exact ⟨a, b, c, by rw [upd_ne (ne_of_none e hq)]; exact e, h1⟩
theorem Pool.ne {H : Hp} {p q : Addr} {n : Nat} {o : HO} (h : Pool H p n) (hq : q ≠ p) : Pool (upd H q o) p n := by
  obtain ⟨a, b, c, e, h1⟩ := h
  exact ⟨a, b, c, by rw [upd_ne hq.symm]; exact e, h1⟩
theorem Pool.apart {H : Hp} {p q : Addr} {n : Nat} (h : Pool H p n) (hq : H q = Option.none) : q ≠ p := by
  obtain ⟨xs, e⟩ := h.some
  exact (ne_of_none e hq).symm
section
variable {P : Program} {w : World} {K : PySem.W.Frag} {mg : Str → Option Value} {base : Heap}
/-! ### cell -/
def spCell (K : PySem.W.Frag) : Sp := fun vs H Q _ => ∃ (a : Addr) (ns : List Int) (k : Nat), vs = [.ref a, .int k] ∧ SqL K H a (ns.map V.int) ∧ ns.length ≤ 63 ∧
  ∀ (z : Int) H', Same H H' → Q (.int z) H'
theorem scCell : FnScope ["_law_script", "_law_k"] ["_law_script", "_law_k"] (defScope sCell) := ⟨rfl, rfl, rfl, by decide +kernel, rfl, by decide +kernel, by decide +kernel⟩
theorem cut_map (ns : List Int) (lo hi : Option Int) : cutV (ns.map V.int) lo hi = ((ns.drop (HT.sIx ns.length 0 lo)).take (HT.sIx ns.length ns.length hi - HT.sIx ns.length 0 lo)).map V.int := by
  unfold cutV
  rw [List.length_map, List.map_take, List.map_drop]
theorem ok_cell {f : Addr} {fd : FuncData} (F : Fun K "_law_cell" "_law_cell" sCell f fd) (ml : mg "len" = none) (ms : mg "sum" = none) : FnOk P w K mg base CX0 1 f fd ["_law_script", "_law_k"] (spCell K) := by
  refine F.ok scCell (fun vs H Q E h => ?_) (fun cdv A outer s H vs Q E hr h => ?_)
  · obtain ⟨a, ns, k, rfl, _⟩ := h
    rfl
  obtain ⟨a, ns, k, rfl, hS, hlen, q⟩ := h
  refine ⟨_, pss_cons (ps_if (pt_cmpR op_lt (pv 1) (pe_callB call_len_seq rfl ml PySem.boot_len (pa_cons (pv 0) pa_nil)) (nomark _))
      (pss_one (ps_ret (pe_ix ix_list (pv 0) (pv 1) (fun _ _ => rfl)))) pss_nil)
    (pss_one (ps_ret (pe_op op_mod (pe_callB (cr_sum rfl) rfl ms (by decide +kernel) (pa_cons (pe_slice sl_list (pv 0) po_none (po_some pe_int)) pa_nil)) pe_int))), ?_⟩
  refine ⟨_, rfl, _, rfl, a, _, rfl, .inl hS, _, _, rfl, rfl, _, rfl, ?_⟩
  refine ite2 (fun c => ?_) (fun c => ?_)
  · have c' : (k : Int) < (((ns.map V.int).length : Nat) : Int) := of_decide_eq_true c
    rw [List.length_map] at c'
    have hk : k < ns.length := by omega
    refine ⟨_, rfl, _, rfl, a, _, _, _, rfl, rfl, hS, atI_nat (v := .int ns[k]) (by rw [List.getElem?_map, List.getElem?_eq_getElem hk] <;> rfl), ?_⟩
    exact q _ H (Same.refl H)
  · refine ⟨_, rfl, _, rfl, a, _, rfl, hS, fun p hp => ?_⟩
    refine ⟨p, _, rfl, .inl (.inl (by rw [upd_same, cut_map])), _, _, rfl, rfl, (by show (0 : Int) < 1000003; decide), ?_⟩
    exact q _ _ (same_new hp _)
/-! ### pool -/
def spPool : Sp := fun vs H Q _ => ∃ (z : Int), vs = [.int z] ∧ ∀ p H', H p = none → Same H H' → Pool H' p 0 → Q (.ref p) H'
theorem scPool : FnScope ["_law_cell_here", "_law_folded"] ["_law_cell_here"] (defScope sPool) := ⟨rfl, rfl, rfl, by decide +kernel, rfl, by decide +kernel, by decide +kernel⟩
theorem pool_new {H : Hp} {p : Addr} (hp : H p = none) {a b : Int} : Pool (upd H p (.lst [.int a, .int (b % 1000000007), .int 0])) p 0 :=
  ⟨a, _, 0, upd_same, by omega, by omega, by omega, by omega⟩
theorem ok_pool {f : Addr} {fd : FuncData} (F : Fun K "_law_pool" "_law_pool" sPool f fd) (mi : mg "int" = none) : FnOk P w K mg base CX0 1 f fd ["_law_cell_here"] spPool := by
  refine F.ok scPool (fun vs H Q E h => ?_) (fun cdv A outer s H vs Q E hr h => ?_)
  · obtain ⟨z, rfl, _⟩ := h
    rfl
  obtain ⟨z, rfl, q⟩ := h
  refine ⟨_, pss_cons (ps_set (i := 1) scPool.nd rfl (Or.inl rfl) (pe_op op_mul pe_int (pv 0)))
    (pss_cons (ps_if (pt_cmpR op_lt (pv 0) pe_int (nomark _)) (pss_one (ps_set (i := 1) scPool.nd rfl (Or.inl rfl) (pe_op op_sub (pe_op op_sub pe_int (pe_op op_mul pe_int (pv 0))) pe_int))) pss_nil)
    (pss_cons (ps_if (pt_cmpR op_ge (pv 1) (pe_op op_pow pe_int pe_int) (nomark _))
      (pss_one (ps_ret (pe_lst (pa_cons (pe_op op_fdivN (pv 1) pe_int) (pa_cons (pe_op op_mod (pe_callTy call_int1 rfl mi PyProof.Rows.boot_int (pa_cons (pv 1) pa_nil)) pe_int) (pa_cons pe_int pa_nil)))))) pss_nil)
    (pss_one (ps_ret (pe_lst (pa_cons pe_int (pa_cons (pe_op op_mod (pe_callTy call_int1 rfl mi PyProof.Rows.boot_int (pa_cons (pv 1) pa_nil)) pe_int) (pa_cons pe_int pa_nil)))))))), ?_⟩
  have last : ∀ y : Int, tSeq (tIfS (tTest (tOp (rI0 fun i j => .bl (decide (i ≥ j))) (tVar 1) (tOp (rI CPow fun i j => .int (i ^ j.toNat)) (tC (.int 10)) (tC (.int 18)))))
      (tRet (tLst (tCons (tOp (rI CDivN fun i j => .int (i.fdiv j)) (tVar 1) (tC (.int 2))) (tCons (tOp (rI (fun _ j => 0 < j) fun i j => .int (i % j)) (tCB (fun xs H Q => (∃ i, xs = [.int i] ∧ Q (.int i) H) ∨ ∃ k, xs = [.bl k] ∧ Q (.int (if k then 1 else 0)) H) (tCons (tVar 1) tNil)) (tC (.int 1000000007))) (tCons (tC (.int 0)) tNil))))) tNext)
      (tRet (tLst (tCons (tC (.int 0)) (tCons (tOp (rI (fun _ j => 0 < j) fun i j => .int (i % j)) (tCB (fun xs H Q => (∃ i, xs = [.int i] ∧ Q (.int i) H) ∨ ∃ k, xs = [.bl k] ∧ Q (.int (if k then 1 else 0)) H) (tCons (tVar 1) tNil)) (tC (.int 1000000007))) (tCons (tC (.int 0)) tNil)))))
      { nx := fun _ H' => Q .non H', rt := Q } [some (.int z), some (.int y)] H := fun y => by
    refine ⟨_, rfl, _, _, rfl, rfl, ⟨by decide, by decide, by decide⟩, _, _, rfl, rfl, _, rfl, ?_⟩
    refine ite2 (fun c => ?_) (fun c => ?_)
    · refine ⟨_, rfl, _, _, rfl, rfl, ⟨by decide, by decide⟩, _, rfl, .inl ⟨_, rfl, _, _, rfl, rfl, (by show (0 : Int) < 1000000007; decide), (by show 3 ≤ sizeLine; decide), fun p hp => ?_⟩⟩
      exact q p _ hp (same_new hp _) (pool_new hp)
    · refine ⟨_, rfl, .inl ⟨_, rfl, _, _, rfl, rfl, (by show (0 : Int) < 1000000007; decide), (by show 3 ≤ sizeLine; decide), fun p hp => ?_⟩⟩
      exact q p _ hp (same_new hp _) (pool_new hp)
  refine ⟨_, rfl, _, _, rfl, rfl, .inl (by decide), ?_⟩
  refine ⟨_, rfl, _, _, rfl, rfl, _, rfl, ?_⟩
  refine ite2 (fun c => ?_) (fun c => ?_)
  · refine ⟨_, rfl, _, _, rfl, rfl, .inl (by decide), _, _, rfl, rfl, _, _, rfl, rfl, ?_⟩
    exact last _
  · exact last _
end
end Rw
set_option Elab.async false
set_option linter.all false
set_option maxRecDepth 100000
set_option maxHeartbeats 4000000
namespace Rw
open PySem L2
section
variable {P : Program} {w : World} {K : PySem.W.Frag} {mg : Str → Option Value} {base : Heap}
/-! ### take -/
/-- a draw below m; the pool has one more draw behind it -/
def spTake : Sp := fun vs H Q _ => ∃ (p : Addr) (m : Int) (n : Nat), vs = [.ref p, .int m] ∧ Pool H p n ∧ n ≤ 1000000000 ∧ 0 < m ∧ m < 1073741824 ∧
  ∀ (d : Int) (o : HO), 0 ≤ d → d < m → Pool (upd H p o) p (n + 1) → Q (.int d) (upd H p o)
theorem scTake : FnScope ["_law_pool_here", "_law_many", "_law_draw", "_law_mixed_here"] ["_law_pool_here", "_law_many"] (defScope sTake) := ⟨rfl, rfl, rfl, by decide +kernel, rfl, by decide +kernel, by decide +kernel⟩
theorem ok_take {f : Addr} {fd : FuncData} (F : Fun K "_law_take" "_law_take" sTake f fd) (mi : mg "int" = none) : FnOk P w K mg base CX0 1 f fd ["_law_pool_here", "_law_many"] spTake := by
  refine F.ok scTake (fun vs H Q E h => ?_) (fun cdv A outer s H vs Q E hr h => ?_)
  · obtain ⟨p, m, n, rfl, _⟩ := h
    rfl
  obtain ⟨p, m, n, rfl, ⟨a, b, c, hp, hb0, hb1, hc0, hc1⟩, hn, hm0, hm1, q⟩ := h
  refine ⟨_, pss_cons (ps_if (pt_cmpR op_gt (pe_ix ix_list (pv 0) pe_int (fun _ _ => rfl)) pe_int (nomark _))
      (pss_cons (ps_set (i := 2) scTake.nd rfl (Or.inl rfl) (pe_op op_mod (pe_callTy call_int1 rfl mi PyProof.Rows.boot_int (pa_cons (pe_ix ix_list (pv 0) pe_int (fun _ _ => rfl)) pa_nil)) (pv 1)))
      (pss_cons (ps_asg (pe_op op_fdivN (pe_ix ix_list (pv 0) pe_int (fun _ _ => rfl)) (pv 1)) (pg_sub (pv 0) pe_int set_list))
      (pss_one (ps_ret (pv 2))))) pss_nil)
    (pss_cons (ps_asg (pe_op op_add (pe_ix ix_list (pv 0) pe_int (fun _ _ => rfl)) pe_int) (pg_sub (pv 0) pe_int set_list))
    (pss_cons (ps_set (i := 3) scTake.nd rfl (Or.inl rfl) (pe_op op_mod (pe_callTy call_int1 rfl mi PyProof.Rows.boot_int (pa_cons
        (pe_op op_pow (pe_op op_add (pe_op op_add (pe_ix ix_list (pv 0) pe_int (fun _ _ => rfl)) (pe_op op_mul pe_int (pe_ix ix_list (pv 0) pe_int (fun _ _ => rfl)))) pe_int) pe_int) pa_nil)) pe_int))
    (pss_one (ps_ret (pe_op op_mod (pe_op op_mod (pe_callTy call_int1 rfl mi PyProof.Rows.boot_int (pa_cons
        (pe_op op_mul (pe_op op_add (pv 3) (pe_ix ix_list (pv 0) pe_int (fun _ _ => rfl))) pe_int) pa_nil)) pe_int) (pv 1)))))), ?_⟩
  have at0 : ∀ x y z : V, atI [x, y, z] 0 = some x := fun _ _ _ => rfl
  have at1 : ∀ x y z : V, atI [x, y, z] 1 = some y := fun _ _ _ => rfl
  have at2 : ∀ x y z : V, atI [x, y, z] 2 = some z := fun _ _ _ => rfl
  refine ⟨_, rfl, p, _, 0, _, rfl, rfl, SqL.of hp, at0 _ _ _, _, _, rfl, rfl, _, rfl, ?_⟩
  refine ite2 (fun h => ?_) (fun h => ?_)
  · refine ⟨_, rfl, p, _, 0, _, rfl, rfl, SqL.of hp, at0 _ _ _, .inl ⟨_, rfl, _, rfl, _, _, rfl, rfl, hm0, ?_⟩⟩
    refine ⟨_, rfl, p, _, 0, _, rfl, rfl, SqL.of hp, at0 _ _ _, _, rfl, _, _, rfl, rfl, ⟨by omega, by omega⟩, _, rfl, p, _, _, 0, rfl, rfl, hp, rfl, ?_⟩
    refine ⟨_, rfl, ?_⟩
    exact q _ _ (Int.emod_nonneg _ (by omega)) (Int.emod_lt_of_pos _ hm0) ⟨_, b, c, upd_same, hb0, hb1, hc0, by omega⟩
  · refine ⟨_, rfl, p, _, 2, _, rfl, rfl, SqL.of hp, at2 _ _ _, _, _, rfl, rfl, _, rfl, p, _, _, 2, rfl, rfl, hp, rfl, ?_⟩
    have hp2 : (upd H p (.lst ([V.int a, .int b, .int c].set 2 (.int (c + 1))))) p = some (.lst [.int a, .int b, .int (c + 1)]) := upd_same
    refine ⟨_, rfl, p, _, 1, _, rfl, rfl, SqL.of hp2, at1 _ _ _, _, rfl, p, _, 2, _, rfl, rfl, SqL.of hp2, at2 _ _ _, _, _, rfl, rfl, .inl (by decide), _, _, rfl, rfl, _, _, rfl, rfl, _, _, rfl, rfl,
      ⟨by decide, by decide, ?_⟩, .inl ⟨_, rfl, _, _, rfl, rfl, (by show (0 : Int) < 2147483647; decide), ?_⟩⟩
    · show (b + 7919 * (c + 1) + 104729).natAbs < 2 ^ 64
      omega
    refine ⟨_, rfl, _, rfl, p, _, 2, _, rfl, rfl, SqL.of hp2, at2 _ _ _, _, _, rfl, rfl, _, _, rfl, rfl, .inr (by decide), .inl ⟨_, rfl, _, _, rfl, rfl, (by show (0 : Int) < 2147483629; decide), _, rfl, _, _, rfl, rfl, hm0, ?_⟩⟩
    exact q _ _ (Int.emod_nonneg _ (by omega)) (Int.emod_lt_of_pos _ hm0) ⟨a, b, c + 1, upd_same, hb0, hb1, by omega, by omega⟩
end
end Rw
set_option Elab.async false
set_option linter.all false
set_option maxRecDepth 100000
set_option maxHeartbeats 4000000
namespace Rw
open PySem L2
theorem cut_to (xs : List V) (d : Nat) (h : d ≤ xs.length) : cutV xs none (some (d : Int)) = xs.take d := by
  unfold cutV
  rw [HT.sIx_none, HT.sIx_nat, List.drop_zero, Nat.min_eq_left h, Nat.sub_zero]
theorem cut_from (xs : List V) (d : Nat) (h : d ≤ xs.length) : cutV xs (some (d : Int)) none = xs.drop d := by
  unfold cutV
  rw [HT.sIx_none, HT.sIx_nat, Nat.min_eq_left h, List.take_of_length_le (by rw [List.length_drop]; omega)]
theorem small1000' {n : Nat} (h : n ≤ 100000) : n < sizeLine := Nat.lt_of_le_of_lt h (by decide)
section
variable {P : Program} {w : World} {K : PySem.W.Frag} {mg : Str → Option Value} {base : Heap}
/-! ### mixed: the things in some order -/
def Seq (K : PySem.W.Frag) (H : Hp) (a : Addr) (xs : List V) : Prop := SqL K H a xs ∨ SqT K H a xs
theorem Seq.but {p a : Addr} {H H' : Hp} {xs : List V} (h : Seq K H a xs) (b : But p H H') (n : a ≠ p) : Seq K H' a xs :=
  h.elim (fun z => .inl (b.sqL z n)) (fun z => .inr (b.sqT z n))
def spMixed (K : PySem.W.Frag) : Sp := fun vs H Q _ => ∃ (p l : Addr) (xs : List V) (n : Nat), vs = [.ref p, .ref l] ∧ Pool H p n ∧ n + xs.length ≤ 1000000000 ∧ Seq K H l xs ∧ l ≠ p ∧ xs.length ≤ 10000 ∧
  ∀ (ys : List V) (r : Addr) (H' : Hp), ys.Perm xs → H r = none → But p H H' → Pool H' p (n + xs.length) → H' r = some (.lst ys) → Q (.ref r) H'
theorem scMixed : FnScope ["_law_pool_here", "_law_things", "_law_left", "_law_found", "_law_k", "_law_at"] ["_law_pool_here", "_law_things"] (defScope sMixed) := ⟨rfl, rfl, rfl, by decide +kernel, rfl, by decide +kernel, by decide +kernel⟩
theorem ok_mixed {f ft : Addr} {fd fdt : FuncData} (F : Fun K "_law_mixed" "_law_mixed" sMixed f fd) (G : FnOk P w K mg base CX0 1 ft fdt ["_law_pool_here", "_law_many"] spTake) (bT : Binds K fdt ["_law_pool_here", "_law_many"] []) (kT : PySem.W.keepIn K (.ref ft) = true) (mT : mg "_law_take" = some (.ref ft))
    (ml : mg "len" = none) (mr : mg "range" = none) (mk : mg "list" = none) : FnOk P w K mg base CX0 2 f fd ["_law_pool_here", "_law_things"] (spMixed K) := by
  refine F.ok scMixed (fun vs H Q E h => ?_) (fun cdv A outer s H vs Q E hr h => ?_)
  · obtain ⟨p, l, xs, n, rfl, _⟩ := h
    rfl
  obtain ⟨p, l, xs, n, rfl, hP, hn, hS, hlp, hxs, q⟩ := h
  refine ⟨_, pss_cons (ps_par (i := 2) (j := 3) rfl scMixed.nd rfl rfl (by decide) rfl rfl (pa_cons (pe_callTy call_list_of rfl mk PyProof.Rows.boot_list (pa_cons (pv 1) pa_nil)) (pa_cons (pe_lst pa_nil) pa_nil)) (by rfl))
    (pss_cons (ps_for PassesOwn.never rfl (pi_range1 rfl mr (pa_cons (pe_callB call_len_seq rfl ml PySem.boot_len (pa_cons (pv 1) pa_nil)) pa_nil)) (pg_name (i := 4) scMixed.nd rfl (Or.inl rfl))
      (pss_cons (ps_set (i := 5) scMixed.nd rfl (Or.inl rfl) (pe_call G hr rfl mT kT bT .nil pass0 (pa_cons (pv 0) (pa_cons (pe_callB call_len_seq rfl ml PySem.boot_len (pa_cons (pv 2) pa_nil)) pa_nil))))
      (pss_cons (ps_expr (pe_bm PySem.F.plainAttrs_list PySem.F.slot_list_append PySem.F.type_list_append mt_append (pv 3) (pa_cons (pe_ix ix_list (pv 2) (pv 5) (fun _ _ => rfl)) pa_nil)))
      (pss_one (ps_set (i := 2) scMixed.nd rfl (Or.inl rfl) (pe_op op_cat (pe_slice sl_list (pv 2) po_none (po_some (pv 5))) (pe_slice sl_list (pv 2) (po_some (pe_op op_add (pv 5) pe_int)) po_none)))))))
    (pss_one (ps_ret (pv 3)))), ?_⟩
  refine ⟨_, rfl, l, xs, rfl, hS, fun a ha => ⟨(by show 0 ≤ sizeLine; decide), fun b hb => ⟨_, _, rfl, ?_⟩⟩⟩
  have hb' : H b = none := by
    cases e : H b with
    | none => rfl
    | some o =>
      have z := same_new ha (.lst xs) b o e
      rw [z] at hb
      cases hb
  have nab : a ≠ b := ne_of_none upd_same hb
  have nbp : b ≠ p := hP.apart hb'
  have nap : a ≠ p := hP.apart ha
  have h0 : But p H (upd (upd H a (.lst xs)) b (.lst [])) := (But.refl.new ha).new hb
  refine ⟨_, rfl, l, xs, rfl, hS.but h0 hlp, (xs.length : Int), rfl, by omega, by omega, ?_⟩
  rw [Int.toNat_natCast]
  refine for_range (lo := 0) (n := xs.length) (fun i σ' H' => ∃ (a' : Addr) (ls fs : List V) (u v : Option V), σ' = [some (.ref p), some (.ref l), some (.ref a'), some (.ref b), u, v] ∧ H' a' = some (.lst ls) ∧ H' b = some (.lst fs) ∧ a' ≠ b ∧ a' ≠ p ∧
    (fs ++ ls).Perm xs ∧ fs.length = i ∧ But p H H' ∧ Pool H' p (n + i)) ?_ ?_ ?_
  · exact ⟨a, xs, [], none, none, rfl, by rw [upd_ne nab]; exact upd_same, upd_same, nab, nap, .refl _, rfl, h0, (hP.new ha).new hb⟩
  · rintro i σ' H' hi ⟨a', ls, fs, u, v, rfl, ea, eb, nab', nap', pm, hl, hB, hP'⟩
    have hll : fs.length + ls.length = xs.length := by rw [← List.length_append]; exact pm.length_eq
    refine ⟨_, rfl, _, rfl, a', ls, rfl, .inl (SqL.of ea), p, (ls.length : Int), n + i, rfl, hP', by omega, by omega, by omega, fun d o d0 d1 hP2 => ?_⟩
    have hB2 : But p H (upd H' p o) := hB.put
    have ea2 : (upd H' p o) a' = some (.lst ls) := by rw [upd_ne nap']; exact ea
    have eb2 : (upd H' p o) b = some (.lst fs) := by rw [upd_ne nbp]; exact eb
    generalize upd H' p o = H2 at hB2 ea2 eb2 hP2
    obtain ⟨k, rfl⟩ : ∃ k : Nat, d = (k : Int) := ⟨d.toNat, by omega⟩
    have hk : k < ls.length := by omega
    refine ⟨_, rfl, .inl ⟨rfl, _, SqL.of eb2⟩, _, rfl, _, rfl, a', ls, (k : Int), ls[k], rfl, rfl, SqL.of ea2, atI_nat (by simp [hk]), b, fs, ls[k], rfl, rfl, eb2, small1000' (by omega), ?_⟩
    have hb3 : But p H (upd H2 b (.lst (fs ++ [ls[k]]))) := hB2.mut hb'
    have ea3 : (upd H2 b (.lst (fs ++ [ls[k]]))) a' = some (.lst ls) := by rw [upd_ne nab']; exact ea2
    have eb3 : (upd H2 b (.lst (fs ++ [ls[k]]))) b = some (.lst (fs ++ [ls[k]])) := upd_same
    have hP3 : Pool (upd H2 b (.lst (fs ++ [ls[k]]))) p (n + i + 1) := hP2.ne nbp
    generalize upd H2 b (.lst (fs ++ [ls[k]])) = H3 at hb3 ea3 eb3 hP3
    refine ⟨_, rfl, _, rfl, (k : Int), rfl, a', ls, rfl, SqL.of ea3, fun p1 hp1 => ?_⟩
    rw [cut_to ls k (by omega)]
    refine ⟨_, rfl, _, rfl, _, _, rfl, rfl, ((k : Int) + 1), rfl, a', ls, rfl, SqL.of (same_new hp1 _ a' _ ea3), fun p2 hp2 => ?_⟩
    have ek : (k : Int) + 1 = ((k + 1 : Nat) : Int) := by omega
    rw [ek, cut_from ls (k + 1) (by omega)]
    refine ⟨p1, p2, _, _, rfl, rfl, same_new hp2 _ p1 _ upd_same, upd_same, ?_, fun r hr => ?_⟩
    · rw [List.length_take, List.length_drop]
      exact Nat.le_trans (show _ ≤ 10000 by omega) (by decide)
    have s1 : Same H3 (upd (upd (upd H3 p1 (.lst (ls.take k))) p2 (.lst (ls.drop (k + 1)))) r (.lst (ls.take k ++ ls.drop (k + 1)))) := ((same_new hp1 _).trans (same_new hp2 _)).trans (same_new hr _)
    have nrb : r ≠ b := (ne_of_none (same_new hp2 _ b _ (same_new hp1 _ b _ eb3)) hr).symm
    refine ⟨r, ls.take k ++ ls.drop (k + 1), fs ++ [ls[k]], some (.int (0 + i)), some (.int (k : Int)), rfl, upd_same, s1 b _ eb3, nrb, ?_, ?_, by simp [hl], hb3.trans (But.of s1), ?_⟩
    · exact (((hP3.new hp1).new hp2).apart hr)
    · refine List.Perm.trans ?_ pm
      rw [List.append_assoc]
      refine List.Perm.append_left _ ?_
      have e := List.take_append_drop k ls
      have e2 : ls.drop k = ls[k] :: ls.drop (k + 1) := List.drop_eq_getElem_cons hk
      rw [e2] at e
      conv => rhs; rw [← e]
      show (ls[k] :: (List.take k ls ++ List.drop (k + 1) ls)).Perm _
      exact List.perm_middle.symm
    · exact ((hP3.new hp1).new hp2).new hr
  · rintro σ' H' ⟨a', ls, fs, u, v, rfl, ea, eb, nab', nap', pm, hl, hB, hP'⟩
    have hll : fs.length + ls.length = xs.length := by rw [← List.length_append]; exact pm.length_eq
    have e0 : ls = [] := List.eq_nil_of_length_eq_zero (by omega)
    subst e0
    rw [List.append_nil] at pm
    exact ⟨_, rfl, q fs b H' pm hb' hB hP' eb⟩
end
end Rw
set_option Elab.async false
set_option linter.all false
set_option maxRecDepth 100000
set_option maxHeartbeats 4000000
namespace Rw
open PySem L2
abbrev sNames : Stmt := top 48
abbrev sWord : Stmt := top 50
abbrev sPairs : Stmt := top 52
theorem perm_map_inv {α β : Type} {f : α → β} : ∀ {ys : List β} {xs : List α}, ys.Perm (xs.map f) → ∃ zs : List α, zs.Perm xs ∧ ys = zs.map f
  | [], xs, h => by
    have e : xs.map f = [] := List.Perm.nil_eq h |>.symm
    have e2 : xs = [] := by simpa using e
    subst e2
    exact ⟨[], .refl _, rfl⟩
  | y :: t, xs, h => by
    have hy : y ∈ xs.map f := h.mem_iff.mp List.mem_cons_self
    obtain ⟨x, hx, e⟩ := List.mem_map.mp hy
    subst e
    obtain ⟨s, u, rfl⟩ := List.append_of_mem hx
    have h2 : (f x :: t).Perm (f x :: (s ++ u).map f) := by
      refine h.trans ?_
      rw [List.map_append, List.map_cons, List.map_append]
      exact List.perm_middle
    obtain ⟨zs, hz, e⟩ := perm_map_inv (List.Perm.cons_inv h2)
    subst e
    exact ⟨x :: zs, (List.Perm.cons x hz).trans List.perm_middle.symm, rfl⟩
def menu : List Str := ["a", "b", "x", "clock", "now", "abcdefgh", "z"]
theorem menu_nd : menu.Nodup := by decide +kernel
section
variable {P : Program} {w : World} {K : PySem.W.Frag} {mg : Str → Option Value} {base : Heap}
/-! ### names -/
def spNames : Sp := fun vs H Q _ => ∃ (p : Addr) (m n : Nat), vs = [.ref p, .int m] ∧ Pool H p n ∧ n + 7 ≤ 1000000000 ∧ m ≤ 7 ∧
  ∀ (ns : List Str) (r : Addr) (H' : Hp), ns.Nodup → (∀ x ∈ ns, x ∈ menu) → ns.length = m → H r = none → But p H H' → Pool H' p (n + 7) → H' r = some (.lst (ns.map V.str)) → Q (.ref r) H'
theorem scNames : FnScope ["_law_pool_here", "_law_many"] ["_law_pool_here", "_law_many"] (defScope sNames) := ⟨rfl, rfl, rfl, by decide +kernel, rfl, by decide +kernel, by decide +kernel⟩
theorem ok_names {f ft : Addr} {fd fdt : FuncData} (F : Fun K "_law_names" "_law_names" sNames f fd) (G : FnOk P w K mg base CX0 2 ft fdt ["_law_pool_here", "_law_things"] (spMixed K)) (bT : Binds K fdt ["_law_pool_here", "_law_things"] []) (kT : PySem.W.keepIn K (.ref ft) = true) (mT : mg "_law_mixed" = some (.ref ft)) :
    FnOk P w K mg base CX0 3 f fd ["_law_pool_here", "_law_many"] spNames := by
  refine F.ok scNames (fun vs H Q E h => ?_) (fun cdv A outer s H vs Q E hr h => ?_)
  · obtain ⟨p, m, n, rfl, _⟩ := h
    rfl
  obtain ⟨p, m, n, rfl, hP, hn, hm, q⟩ := h
  refine ⟨_, pss_one (ps_ret (pe_slice sl_list (pe_call G hr rfl mT kT bT .nil pass0 (pa_cons (pv 0) (pa_cons (pe_lst (pa_cons pe_str (pa_cons pe_str (pa_cons pe_str (pa_cons pe_str (pa_cons pe_str (pa_cons pe_str (pa_cons pe_str pa_nil)))))))) pa_nil))) po_none (po_some (pv 1)))), ?_⟩
  refine ⟨_, rfl, (by show 7 ≤ sizeLine; decide), fun l hl => ?_⟩
  have nl : l ≠ p := hP.apart hl
  have e7 : (menu.map V.str).length = 7 := rfl
  refine ⟨p, l, menu.map V.str, n, rfl, hP.new hl, by rw [e7]; omega, .inl (SqL.of upd_same), nl, by rw [e7]; omega, fun ys r H' pm hr' hB hP' hrr => ?_⟩
  rw [e7] at hP'
  obtain ⟨zs, hz, rfl⟩ := perm_map_inv pm
  have hl7 : zs.length = 7 := hz.length_eq
  refine ⟨_, rfl, (m : Int), rfl, r, _, rfl, SqL.of hrr, fun s hs => ?_⟩
  rw [cut_to _ m (by rw [List.length_map]; omega), ← List.map_take]
  have hB' : But p H H' := fun b o e n => hB b o (same_new hl _ b o e) n
  have hs0 : H s = none := by
    cases e : H s with
    | none => rfl
    | some o =>
      by_cases ne : s = p
      · subst ne
        obtain ⟨xs, e2⟩ := hP'.some
        rw [e2] at hs
        cases hs
      · rw [hB' s o e ne] at hs
        cases hs
  refine q (zs.take m) s _ ?_ (fun x hx => hz.mem_iff.mp (List.mem_of_mem_take hx)) (by rw [List.length_take]; omega) hs0 (hB'.new hs) (hP'.new hs) upd_same
  exact ((hz.nodup_iff.mpr menu_nd).sublist (List.take_sublist _ _))
/-! ### one of the things -/
def spOne (K : PySem.W.Frag) : Sp := fun vs H Q _ => ∃ (p l : Addr) (xs : List V) (n : Nat), vs = [.ref p, .ref l] ∧ Pool H p n ∧ n ≤ 1000000000 ∧ Seq K H l xs ∧ l ≠ p ∧ 0 < xs.length ∧ xs.length ≤ 10000 ∧
  ∀ (k : Nat) (v : V) (o : HO), xs[k]? = some v → Pool (upd H p o) p (n + 1) → Q v (upd H p o)
theorem scOne : FnScope ["_law_pool_here", "_law_things"] ["_law_pool_here", "_law_things"] (defScope sOne) := ⟨rfl, rfl, rfl, by decide +kernel, rfl, by decide +kernel, by decide +kernel⟩
theorem but_upd {H : Hp} {p : Addr} {o : HO} : But p H (upd H p o) := But.refl.put
theorem ok_one {f ft : Addr} {fd fdt : FuncData} (F : Fun K "_law_one" "_law_one" sOne f fd) (G : FnOk P w K mg base CX0 1 ft fdt ["_law_pool_here", "_law_many"] spTake) (bT : Binds K fdt ["_law_pool_here", "_law_many"] []) (kT : PySem.W.keepIn K (.ref ft) = true) (mT : mg "_law_take" = some (.ref ft))
    (ml : mg "len" = none) : FnOk P w K mg base CX0 2 f fd ["_law_pool_here", "_law_things"] (spOne K) := by
  refine F.ok scOne (fun vs H Q E h => ?_) (fun cdv A outer s H vs Q E hr h => ?_)
  · obtain ⟨p, l, xs, n, rfl, _⟩ := h
    rfl
  obtain ⟨p, l, xs, n, rfl, hP, hn, hS, hlp, h0, h1, q⟩ := h
  refine ⟨_, pss_one (ps_ret (pe_ix ix_seq (pv 1) (pe_call G hr rfl mT kT bT .nil pass0 (pa_cons (pv 0) (pa_cons (pe_callB call_len_seq rfl ml PySem.boot_len (pa_cons (pv 1) pa_nil)) pa_nil))) (fun _ _ => rfl))), ?_⟩
  refine ⟨_, rfl, _, rfl, _, rfl, l, xs, rfl, hS, p, (xs.length : Int), n, rfl, hP, hn, by omega, by omega, fun d o d0 d1 hP' => ?_⟩
  obtain ⟨k, rfl⟩ : ∃ k : Nat, d = (k : Int) := ⟨d.toNat, by omega⟩
  have hk : k < xs.length := by omega
  have e : xs[k]? = some xs[k] := by simp [hk]
  rcases hS.but (but_upd (o := o)) hlp with z | z
  · exact .inl ⟨l, xs, _, _, rfl, rfl, z, atI_nat e, q k _ o e hP'⟩
  · exact .inr (.inl ⟨l, xs, _, _, rfl, rfl, z, atI_nat e, q k _ o e hP'⟩)
/-! ### word: a bound of two numbers as a word and a number -/
def wordV (s : Int) : V := .str (if s = 1 then "below" else "upto")
def spWord (K : PySem.W.Frag) : Sp := fun vs H Q _ => ∃ (a : Addr) (n s : Int), vs = [.ref a] ∧ SqT K H a [.int n, .int s] ∧ ∀ r, H r = none → Q (.ref r) (upd H r (.tup [wordV s, .int n]))
theorem scWord : FnScope ["_law_bound"] ["_law_bound"] (defScope sWord) := ⟨rfl, rfl, rfl, by decide +kernel, rfl, by decide +kernel, by decide +kernel⟩
theorem ok_word {f : Addr} {fd : FuncData} (F : Fun K "_law_word" "_law_word" sWord f fd) : FnOk P w K mg base CX0 1 f fd ["_law_bound"] (spWord K) := by
  refine F.ok scWord (fun vs H Q E h => ?_) (fun cdv A outer s H vs Q E hr h => ?_)
  · obtain ⟨a, n, s, rfl, _⟩ := h
    rfl
  obtain ⟨a, n, s, rfl, hS, q⟩ := h
  refine ⟨_, pss_one (ps_ret (pe_tup (pa_cons (pe_ifExp (pt_cmpR op_eq (pe_ix ix_tup (pv 0) pe_int (fun _ _ => rfl)) pe_int (nomark _)) pe_str pe_str) (pa_cons (pe_ix ix_tup (pv 0) pe_int (fun _ _ => rfl)) pa_nil)))), ?_⟩
  have at0 : atI [V.int n, .int s] 0 = some (.int n) := rfl
  have at1 : atI [V.int n, .int s] 1 = some (.int s) := rfl
  refine ⟨_, rfl, a, _, _, _, rfl, rfl, hS, at1, rfl, _, rfl, ?_⟩
  refine ite2 (fun c => ?_) (fun c => ?_)
  · have c' : s = 1 := by
      have z := of_decide_eq_true c
      injection z
    refine ⟨_, rfl, a, _, _, _, rfl, rfl, hS, at0, (by show 2 ≤ sizeLine; decide), fun r hr' => ?_⟩
    have z := q r hr'
    unfold wordV at z
    rw [if_pos c'] at z
    exact z
  · have c' : ¬ s = 1 := fun e => c (decide_eq_true (by rw [e]))
    refine ⟨_, rfl, a, _, _, _, rfl, rfl, hS, at0, (by show 2 ≤ sizeLine; decide), fun r hr' => ?_⟩
    have z := q r hr'
    unfold wordV at z
    rw [if_neg c'] at z
    exact z
end
end Rw
set_option Elab.async false
set_option linter.all false
set_option maxRecDepth 100000
set_option maxHeartbeats 4000000
namespace Rw
open PySem L2
/-! ### what may change on the way, while a new list or dict at D grows -/
structure Stp (S : Hp → Hp → Prop) (D : Addr) : Prop where
  trans : ∀ {H H1 H2}, S H H1 → S H1 H2 → S H H2
  of : ∀ {H H1}, Same H H1 → S H H1
  keep : ∀ {H H1 o}, S H H1 → H D = some o → H1 D = some o
  put : ∀ {H H1 o}, S H H1 → H D = none → S H (upd H1 D o)
theorem stp_same (D : Addr) : Stp Same D := ⟨Same.trans, id, fun s h => s _ _ h, fun s h b o e => by rw [upd_ne (ne_of_none e h)]; exact s b o e⟩
theorem stp_but {p D : Addr} (h : D ≠ p) : Stp (But p) D := ⟨But.trans, But.of, fun s e => s _ _ e h, fun s e => s.mut e⟩
def chosen (n : Nat) (b : Nat → Bool) : List Nat := (List.range n).filter b
theorem chosen_yes {n : Nat} {b : Nat → Bool} (h : b n = true) : chosen (n + 1) b = chosen n b ++ [n] := by
  unfold chosen
  rw [List.range_succ, List.filter_append]
  simp [h]
theorem chosen_no {n : Nat} {b : Nat → Bool} (h : b n = false) : chosen (n + 1) b = chosen n b := by
  unfold chosen
  rw [List.range_succ, List.filter_append]
  simp [h]
theorem chosen_len (n : Nat) (b : Nat → Bool) : (chosen n b).length ≤ n := by
  unfold chosen
  have h := List.length_filter_le b (List.range n)
  rwa [List.length_range] at h
theorem Paired.snoc {α β : Type} {F : α → β → Prop} : ∀ {xs : List α} {ys : List β} {x : α} {y : β}, Paired F xs ys → F x y → Paired F (xs ++ [x]) (ys ++ [y])
  | _, _, _, _, .nil, h => .cons h .nil
  | _, _, _, _, .cons r t, h => .cons r (Rw.Paired.snoc t h)
theorem Paired.imp {α β : Type} {F G : α → β → Prop} : ∀ {xs : List α} {ys : List β}, Paired F xs ys → (∀ x y, x ∈ xs → F x y → G x y) → Paired G xs ys
  | _, _, .nil, _ => .nil
  | _, _, .cons r t, f => .cons (f _ _ List.mem_cons_self r) (Rw.Paired.imp t fun x y h => f x y (List.mem_cons_of_mem _ h))
/-- a comprehension of a list over a walk: b tells which turns give, Res what they give, Iv holds of the turn and the heap -/
theorem lc_mapI {J : It} {n : Nat} {G : Hp → Prop} {Y : Nat → Hp → V → Hp → Prop} {g : TG} {tt : TT} {te : TE} {vs : List Nat} {σ : L2.St} {H1 : Hp} {D : Addr} {Qd : Hp → Prop} {S : Hp → Hp → Prop} (w : Walk J n G Y) (st : Stp S D) (hD : H1 D = none) (hn : n ≤ 50000)
    (b : Nat → Bool) (Iv : Nat → Hp → Prop) (Res : Nat → Hp → V → Prop) (resS : ∀ i H H' y, S H H' → Res i H y → Res i H' y) (resD : ∀ i H y acc o, H D = some (.lst acc) → Res i H y → Res i (upd H D o) y)
    (iv0 : Iv 0 (upd H1 D (.lst []))) (ivD : ∀ i H acc acc', H D = some (.lst acc) → Iv i H → Iv i (upd H D (.lst acc'))) (hG : ∀ H, S H1 H → G H)
    (step : ∀ i x H H' (acc : List V) (N : VK) (Z : Hp → Prop), i < n → S H1 H → Iv i H → H D = some (.lst acc) → Y i H x H' → (b i = true → ∀ y H4, S H H4 → Iv (i + 1) H4 → Res i H4 y → N y H4) → (b i = false → ∀ H3, S H H3 → Iv (i + 1) H3 → Z H3) →
      g x (wipe σ vs) H' fun σ2 H2 => wipe σ2 vs = wipe σ vs ∧ tt σ2 H2 fun c H3 => if c = true then te σ2 H3 N else Z H3)
    (done : ∀ ys H', S H1 H' → Iv n H' → H' D = some (.lst ys) → Paired (fun i y => Res i H' y) (chosen n b) ys → Qd H') :
    ∃ W : Nat → Nat → Hp → Prop, (∃ m, W 0 m (upd H1 D (.lst []))) ∧ ∀ i m H, W i m H →
      (J.stop i H ∧ Qd H) ∨ (J.go i H ∧ ∃ Nx : Hp → Prop, (∀ H', Nx H' → ∃ m', m' < m ∧ W (i + 1) m' H') ∧ ∀ x H', J.yld i H x H' → g x (wipe σ vs) H' fun σ2 H2 => wipe σ2 vs = wipe σ vs ∧ tt σ2 H2 fun b H3 =>
        if b = true then te σ2 H3 fun y H4 => ∃ acc, H4 D = some (.lst acc) ∧ acc.length < sizeLine ∧ Nx (upd H4 D (.lst (acc ++ [y]))) else Nx H3) := by
  refine lc_it w (fun i H => S H1 H ∧ Iv i H ∧ ∃ ys, H D = some (.lst ys) ∧ Paired (fun i y => Res i H y) (chosen i b) ys) ⟨st.put (st.of (Same.refl _)) hD, iv0, [], upd_same, .nil⟩ (fun i H _ h => hG H h.1) ?_ fun H h => ?_
  · rintro i x H H' hi ⟨s, iv, ys, e, r⟩ y
    refine step i x H H' ys _ _ hi s iv e y (fun hb z H4 s4 iv4 rz => ?_) (fun hb H3 s3 iv3 => ?_)
    · have e4 := st.keep s4 e
      have hl : ys.length ≤ i := by rw [← Paired.length r]; exact chosen_len i b
      refine ⟨ys, e4, small1000' (by omega), st.put (st.trans s s4) hD, ivD _ _ _ _ e4 iv4, ys ++ [z], upd_same, ?_⟩
      rw [chosen_yes hb]
      exact Rw.Paired.snoc (Rw.Paired.imp r fun j y _ h => resD j H4 y ys _ e4 (resS j H H4 y s4 h)) (resD i H4 z ys _ e4 rz)
    · refine ⟨st.trans s s3, iv3, ys, st.keep s3 e, ?_⟩
      rw [chosen_no hb]
      exact Rw.Paired.imp r fun j y _ h => resS j H H3 y s3 h
  · obtain ⟨s, iv, ys, e, r⟩ := h
    exact done ys H s iv e r
theorem lc_map {J : It} {n : Nat} {G : Hp → Prop} {Y : Nat → Hp → V → Hp → Prop} {g : TG} {tt : TT} {te : TE} {vs : List Nat} {σ : L2.St} {H1 : Hp} {D : Addr} {Qd : Hp → Prop} {S : Hp → Hp → Prop} (w : Walk J n G Y) (st : Stp S D) (hD : H1 D = none) (hn : n ≤ 50000)
    (b : Nat → Bool) (Res : Nat → Hp → V → Prop) (resS : ∀ i H H' y, S H H' → Res i H y → Res i H' y) (resD : ∀ i H y acc o, H D = some (.lst acc) → Res i H y → Res i (upd H D o) y) (hG : ∀ H, S H1 H → G H)
    (step : ∀ i x H H' (acc : List V) (N : VK) (Z : Hp → Prop), i < n → S H1 H → H D = some (.lst acc) → Y i H x H' → (b i = true → ∀ y H4, S H H4 → Res i H4 y → N y H4) → (b i = false → ∀ H3, S H H3 → Z H3) →
      g x (wipe σ vs) H' fun σ2 H2 => wipe σ2 vs = wipe σ vs ∧ tt σ2 H2 fun c H3 => if c = true then te σ2 H3 N else Z H3)
    (done : ∀ ys H', S H1 H' → H' D = some (.lst ys) → Paired (fun i y => Res i H' y) (chosen n b) ys → Qd H') :
    ∃ W : Nat → Nat → Hp → Prop, (∃ m, W 0 m (upd H1 D (.lst []))) ∧ ∀ i m H, W i m H →
      (J.stop i H ∧ Qd H) ∨ (J.go i H ∧ ∃ Nx : Hp → Prop, (∀ H', Nx H' → ∃ m', m' < m ∧ W (i + 1) m' H') ∧ ∀ x H', J.yld i H x H' → g x (wipe σ vs) H' fun σ2 H2 => wipe σ2 vs = wipe σ vs ∧ tt σ2 H2 fun b H3 =>
        if b = true then te σ2 H3 fun y H4 => ∃ acc, H4 D = some (.lst acc) ∧ acc.length < sizeLine ∧ Nx (upd H4 D (.lst (acc ++ [y]))) else Nx H3) :=
  lc_mapI w st hD hn b (fun _ _ => True) Res resS resD True.intro (fun _ _ _ _ _ _ => True.intro) hG (fun i x H H' acc N Z hi s _ e y h1 h2 => step i x H H' acc N Z hi s e y (fun hb z H4 s4 r => h1 hb z H4 s4 True.intro r) fun hb H3 s3 => h2 hb H3 s3 True.intro)
    fun ys H' s _ e r => done ys H' s e r
theorem Paired.unsnoc {α β : Type} {F : α → β → Prop} : ∀ {xs : List α} {ys : List β} {x : α}, Paired F (xs ++ [x]) ys → ∃ zs y, ys = zs ++ [y] ∧ Paired F xs zs ∧ F x y
  | [], _, _, .cons r .nil => ⟨[], _, rfl, .nil, r⟩
  | _ :: _, _, _, .cons r t => by
    obtain ⟨zs, y, rfl, h1, h2⟩ := Rw.Paired.unsnoc t
    exact ⟨_ :: zs, y, rfl, .cons r h1, h2⟩
/-- which of a list's items -/
def ofL {α : Type} (xs : List α) (p : α → Bool) : Nat → Bool := fun i => match xs[i]? with | some x => p x | none => false
theorem ofL_at {α : Type} {xs : List α} {p : α → Bool} {i : Nat} {x : α} (h : xs[i]? = some x) : ofL xs p i = p x := by
  unfold ofL
  rw [h]
theorem chosen_ofL {α β : Type} {xs : List α} {p : α → Bool} {F : Nat → β → Prop} {G : α → β → Prop} (h : ∀ i x y, xs[i]? = some x → F i y → G x y) : ∀ {k : Nat} {ys : List β}, k ≤ xs.length → Paired F (chosen k (ofL xs p)) ys → Paired G ((xs.take k).filter p) ys
  | 0, _, _, r => by
    have r : Paired F [] _ := r
    cases r
    rw [List.take_zero]
    exact .nil
  | k + 1, ys, hk, r => by
    have hx : xs[k]? = some xs[k] := List.getElem?_eq_getElem (by omega)
    have e : (xs.take (k + 1)).filter p = (xs.take k).filter p ++ (if p xs[k] = true then [xs[k]] else []) := by
      rw [List.take_succ, hx, List.filter_append]
      show _ ++ List.filter p [xs[k]] = _
      rw [List.filter_cons, List.filter_nil]
    rw [e]
    cases hp : p xs[k] with
    | true =>
      have hb : ofL xs p k = true := by rw [ofL_at hx, hp]
      rw [chosen_yes hb] at r
      obtain ⟨zs, y, rfl, h1, h2⟩ := Rw.Paired.unsnoc r
      rw [if_pos rfl]
      exact Rw.Paired.snoc (chosen_ofL h (by omega) h1) (h k _ _ hx h2)
    | false =>
      have hb : ofL xs p k = false := by rw [ofL_at hx, hp]
      rw [chosen_no hb] at r
      rw [if_neg Bool.false_ne_true, List.append_nil]
      exact chosen_ofL h (by omega) r
theorem chosen_whole {α β : Type} {xs : List α} {p : α → Bool} {F : Nat → β → Prop} {G : α → β → Prop} (h : ∀ i x y, xs[i]? = some x → F i y → G x y) {ys : List β} (r : Paired F (chosen xs.length (ofL xs p)) ys) : Paired G (xs.filter p) ys := by
  have z := chosen_ofL h (Nat.le_refl _) r
  rwa [List.take_length] at z
/-- what gives references -/
theorem paired_refs {α : Type} {F : α → Addr → Prop} : ∀ {xs : List α} {ys : List V}, Paired (fun x y => ∃ a, y = .ref a ∧ F x a) xs ys → ∃ as : List Addr, ys = as.map V.ref ∧ Paired F xs as
  | _, _, .nil => ⟨[], rfl, .nil⟩
  | _, _, .cons ⟨a, e, h⟩ t => by
    obtain ⟨as, rfl, r⟩ := paired_refs t
    subst e
    exact ⟨a :: as, rfl, .cons h r⟩
theorem paired_map {α β γ : Type} {f : α → γ} {F : γ → β → Prop} : ∀ {xs : List α} {ys : List β}, Paired (fun x y => F (f x) y) xs ys → Paired F (xs.map f) ys
  | _, _, .nil => .nil
  | _, _, .cons r t => .cons r (paired_map t)
theorem paired_app {α β : Type} {F : α → β → Prop} : ∀ {xs xs' : List α} {ys ys' : List β}, Paired F xs ys → Paired F xs' ys' → Paired F (xs ++ xs') (ys ++ ys')
  | _, _, _, _, .nil, h => h
  | _, _, _, _, .cons r t, h => .cons r (paired_app t h)
/-! ### lists of pairs of texts -/
def IsPr (H : Hp) (a : Addr) (q : Str × Str) : Prop := H a = some (.tup [.str q.1, .str q.2])
def prsOf' (ns ms : List Str) : List (Str × Str) := ms.flatMap fun a => (ns.filter fun b => decide (b ≠ a)).map fun b => (a, b)
abbrev prsOf (ns : List Str) : List (Str × Str) := prsOf' ns ns
theorem IsPr.same {H H' : Hp} {a : Addr} {q : Str × Str} (h : IsPr H a q) (s : Same H H') : IsPr H' a q := s _ _ h
section
variable {P : Program} {w : World} {K : PySem.W.Frag} {mg : Str → Option Value} {base : Heap}
/-! ### pairs -/
def spPairs (K : PySem.W.Frag) : Sp := fun vs H Q _ => ∃ (l : Addr) (ns : List Str), vs = [.ref l] ∧ SqL K H l (ns.map V.str) ∧ ns.length ≤ 100 ∧
  ∀ (as : List Addr) (r : Addr) (H' : Hp), H r = none → Same H H' → Paired (fun q a => IsPr H' a q) (prsOf ns) as → H' r = some (.lst (as.map V.ref)) → Q (.ref r) H'
theorem scPairs : FnScope ["_law_ones", "_law_found", "_law_one_here", "_law_other_here"] ["_law_ones"] (defScope sPairs) := ⟨rfl, rfl, rfl, by decide +kernel, rfl, by decide +kernel, by decide +kernel⟩
theorem ok_pairs {f : Addr} {fd : FuncData} (F : Fun K "_law_pairs" "_law_pairs" sPairs f fd) : FnOk P w K mg base CX0 1 f fd ["_law_ones"] (spPairs K) := by
  refine F.ok scPairs (fun vs H Q E h => ?_) (fun cdv A outer s H vs Q E hr h => ?_)
  · obtain ⟨l, ns, rfl, _⟩ := h
    rfl
  obtain ⟨l, ns, rfl, hS, hn, q⟩ := h
  refine ⟨_, pss_cons (ps_set (i := 1) scPairs.nd rfl (Or.inl rfl) (pe_lst pa_nil))
    (pss_cons (ps_for PassesOwn.never rfl (pi_list (pv 0)) (pg_name (i := 2) scPairs.nd rfl (Or.inr rfl))
      (pss_one (ps_expr (pe_bm PySem.F.plainAttrs_list PySem.F.slot_list_extend PySem.F.type_list_extend mt_extend (pv 1) (pa_cons
        (pe_lc (own := [("_law_other_here", 3)]) (g := gName 3) rfl scPairs.nd (pi_list (pv 0)) (blkOk_by (N := ["_law_ones", "_law_found", "_law_one_here", "_law_other_here"]) (sc := defScope sPairs) (by decide +kernel))
          (fun _ _ _ _ _ => pg_name (i := 3) scPairs.nd rfl (Or.inl rfl)) (fun _ _ _ _ _ => pts_one (pt_cmpR op_ne (pv 3) (pv 2) (nomark _))) (fun _ _ _ _ _ => pe_tup (pa_cons (pv 2) (pa_cons (pv 3) pa_nil)))) pa_nil)))))
    (pss_one (ps_ret (pv 1)))), ?_⟩
  refine ⟨(by show 0 ≤ sizeLine; decide), fun d hd => ?_⟩
  have e0 : (ns.map V.str).length = ns.length := List.length_map _
  refine ⟨_, rfl, l, rfl, ⟨_, (same_new hd _).seq hS⟩, for_list (xs := ns.map V.str) (fun i σ' H' => ∃ (u v : Option V) (as : List Addr), σ' = [some (.ref l), some (.ref d), u, v] ∧ Same H H' ∧ H' d = some (.lst (as.map V.ref)) ∧ Paired (fun q a => IsPr H' a q) (prsOf' ns (ns.take i)) as ∧ as.length ≤ 100 * i) ?_ ?_ ?_ ?_⟩
  · exact ⟨none, none, [], rfl, same_new hd _, upd_same, .nil, Nat.zero_le _⟩
  · rintro i σ' H' _ ⟨u, v, as, rfl, s, ed, r, _⟩
    exact s.seq hS
  · rintro i x σ' H' hx ⟨u, v, as, rfl, s, ed, r, hl⟩
    obtain ⟨a, ha, rfl⟩ : ∃ a, ns[i]? = some a ∧ x = .str a := by
      rw [List.getElem?_map] at hx
      cases e : ns[i]? with
      | none => rw [e] at hx; cases hx
      | some a => rw [e] at hx; exact ⟨a, rfl, (Option.some.inj hx).symm⟩
    have hi : i < ns.length := (List.getElem?_eq_some_iff.mp ha).1
    refine ⟨_, rfl, .inl ⟨rfl, _, SqL.of ed⟩, _, rfl, l, rfl, ⟨_, s.seq hS⟩, fun D hD => ?_⟩
    refine lc_map (S := Same) (walk_list (K := K) (a := l) (xs := ns.map V.str)) (stp_same D) hD (by omega) (ofL ns fun b => decide (b ≠ a)) (fun j H y => ∃ r, y = .ref r ∧ ∃ c, ns[j]? = some c ∧ IsPr H r (a, c)) ?_ ?_ ?_ ?_ ?_
    · rintro j H2 H3 y s2 ⟨r, rfl, c, hc, h⟩
      exact ⟨r, rfl, c, hc, h.same s2⟩
    · rintro j H2 y acc o hacc ⟨r, rfl, c, hc, h⟩
      refine ⟨r, rfl, c, hc, ?_⟩
      unfold IsPr at h ⊢
      rw [upd_ne (ne_of h hacc (fun z => nomatch z))]
      exact h
    · intro H2 s2
      exact s2.seq (s.seq hS)
    · rintro j x H2 H3 acc N Z hj s2 hacc ⟨rfl, hx⟩ hyes hno
      obtain ⟨c, hc, rfl⟩ : ∃ c, ns[j]? = some c ∧ x = .str c := by
        rw [List.getElem?_map] at hx
        cases e : ns[j]? with
        | none => rw [e] at hx; cases hx
        | some c => rw [e] at hx; exact ⟨c, rfl, (Option.some.inj hx).symm⟩
      refine ⟨rfl, _, rfl, _, rfl, rfl, _, rfl, ?_⟩
      refine ite2 (fun h => ?_) (fun h => ?_)
      · have hne : c ≠ a := fun e => by
          rw [e] at h
          simp at h
        refine ⟨_, rfl, _, rfl, (by show 2 ≤ sizeLine; decide), fun r hr' => ?_⟩
        exact hyes (by rw [ofL_at hc]; exact decide_eq_true hne) _ _ (same_new hr' _) ⟨r, rfl, c, hc, upd_same⟩
      · have he : c = a := by
          by_cases e : c = a
          · exact e
          · exact absurd (show (!decide (V.str c = V.str a)) = true by simp [e]) h
        exact hno (by rw [ofL_at hc]; exact decide_eq_false (fun z => z he)) _ (Same.refl _)
    · intro ys H3 s3 e3 r3
      rw [e0] at r3
      have r4 : Paired (fun c y => ∃ r, y = .ref r ∧ IsPr H3 r (a, c)) (ns.filter fun b => decide (b ≠ a)) ys := chosen_whole (fun j c y hc ⟨r, hr, c', hc', h⟩ => ⟨r, hr, by rw [hc] at hc'; cases hc'; exact h⟩) r3
      obtain ⟨bs, rfl, r5⟩ := paired_refs r4
      have ed3 := s3 d _ ed
      have hbl : bs.length ≤ 100 := by
        have z1 := Paired.length r5
        have z2 := List.length_filter_le (fun b => decide (b ≠ a)) ns
        omega
      refine ⟨d, D, _, _, rfl, rfl, ed3, e3, ?_, ?_⟩
      · rw [List.length_map, List.length_map]
        exact Nat.le_trans (show _ ≤ 100000 by omega) (by decide)
      refine ⟨some (.str a), v, as ++ bs, rfl, (stp_same d).put (s.trans s3) hd, by rw [List.map_append]; exact upd_same, ?_, ?_⟩
      · have hk : ∀ (z : Addr) (q : Str × Str), IsPr H3 z q → IsPr (upd H3 d (.lst (as.map V.ref ++ bs.map V.ref))) z q := fun z q h => by
          unfold IsPr at h ⊢
          rw [upd_ne (ne_of h ed3 (fun z => nomatch z))]
          exact h
        have e1 : prsOf' ns (ns.take (i + 1)) = prsOf' ns (ns.take i) ++ (ns.filter fun b => decide (b ≠ a)).map fun b => (a, b) := by
          unfold prsOf'
          rw [List.take_succ, ha]
          simp
        rw [e1]
        exact paired_app (Rw.Paired.imp r fun q z _ h => hk z q (h.same s3)) (paired_map (F := fun q z => IsPr _ z q) (Rw.Paired.imp r5 fun c z _ h => hk z _ h))
      · rw [List.length_append]
        omega
  · rintro σ' H' ⟨u, v, as, rfl, s, ed, r, _⟩
    refine ⟨_, rfl, ?_⟩
    rw [e0, List.take_length] at r
    exact q as d H' hd s r ed
end
end Rw
set_option Elab.async false
set_option linter.all false
set_option maxRecDepth 100000
set_option maxHeartbeats 4000000
namespace Rw
open PySem L2
abbrev sDrawn : Stmt := top 53
/-! ### dicts with pairs of texts for keys -/
abbrev Pr := Str × Str
def key2 (q : Pr) : List Key := [.inr q.1, .inr q.2]
theorem key2_inj {q r : Pr} (h : key2 q = key2 r) : q = r := by
  obtain ⟨a, b⟩ := q
  obtain ⟨c, d⟩ := r
  unfold key2 at h
  injection h with h1 h2
  injection h2 with h2 _
  injection h1 with h1
  injection h2 with h2
  simp only at h1 h2
  rw [h1, h2]
section
variable {β : Type}
def look (m : List (Pr × β)) (q : Pr) : Option β := (m.find? fun e => decide (e.1 = q)).map (·.2)
theorem look_nil {q : Pr} : look ([] : List (Pr × β)) q = none := rfl
theorem look_pos {e : Pr × β} {m : List (Pr × β)} {q : Pr} (h : e.1 = q) : look (e :: m) q = some e.2 := by simp [look, List.find?_cons, h]
theorem look_neg {e : Pr × β} {m : List (Pr × β)} {q : Pr} (h : ¬ e.1 = q) : look (e :: m) q = look m q := by simp [look, List.find?_cons, h]
/-- the dict at d holds m, each worth as R tells -/
def DT (R : Hp → V → β → Prop) (H : Hp) (d : Addr) (m : List (Pr × β)) : Prop := ∃ kvs, H d = some (.dT kvs) ∧ Paired (fun e kv => kv.1 = key2 e.1 ∧ R H kv.2 e.2) m kvs
theorem pl_look {R : V → β → Prop} (q : Pr) : ∀ {m : List (Pr × β)} {kvs : List (List Key × V)}, Paired (fun e kv => kv.1 = key2 e.1 ∧ R kv.2 e.2) m kvs →
    (look m q = none ∧ valV kvs (key2 q) = none) ∨ ∃ b v, look m q = some b ∧ valV kvs (key2 q) = some v ∧ R v b
  | _, _, .nil => .inl ⟨rfl, rfl⟩
  | e :: m, kv :: kvs, .cons ⟨h1, h2⟩ t => by
    by_cases c : e.1 = q
    · exact .inr ⟨e.2, kv.2, look_pos c, valV_pos (by rw [h1, c]), h2⟩
    · rw [look_neg c, valV_neg (fun z => c (key2_inj (h1.symm.trans z)))]
      exact pl_look q t
theorem DT.len {R : Hp → V → β → Prop} {H : Hp} {d : Addr} {m : List (Pr × β)} (h : DT R H d m) : ∃ kvs, H d = some (.dT kvs) ∧ kvs.length = m.length := by
  obtain ⟨kvs, e, r⟩ := h
  exact ⟨kvs, e, (Paired.length r).symm⟩
theorem DT.mono {R : Hp → V → β → Prop} {H H' : Hp} {d : Addr} {m : List (Pr × β)} (h : DT R H d m) (e : ∀ o, H d = some o → H' d = some o) (f : ∀ v b, R H v b → R H' v b) : DT R H' d m := by
  obtain ⟨kvs, e1, r⟩ := h
  exact ⟨kvs, e _ e1, Rw.Paired.imp r fun x y _ z => ⟨z.1, f _ _ z.2⟩⟩
theorem DT.get {R : Hp → V → β → Prop} {H : Hp} {d a : Addr} {m : List (Pr × β)} {q : Pr} (h : DT R H d m) (ha : IsPr H a q) : ∃ o, DGet H d (.ref a) o ∧ ((look m q = none ∧ o = none) ∨ ∃ b v, look m q = some b ∧ o = some v ∧ R H v b) := by
  obtain ⟨kvs, e, r⟩ := h
  refine ⟨valV kvs (key2 q), DGet.t e ha, ?_⟩
  rcases pl_look (R := fun v b => R H v b) q r with ⟨h1, h2⟩ | ⟨b, v, h1, h2, h3⟩
  · exact .inl ⟨h1, h2⟩
  · exact .inr ⟨b, v, h1, h2, h3⟩
end
/-- a bound of two numbers -/
abbrev Bd := Int × Int
def RB : Hp → V → Bd → Prop := fun H v b => ∃ a, v = .ref a ∧ H a = some (.tup [.int b.1, .int b.2])
theorem RB.mono {H H' : Hp} {v : V} {b : Bd} (h : RB H v b) (s : ∀ a xs, H a = some (.tup xs) → H' a = some (.tup xs)) : RB H' v b := by
  obtain ⟨a, e, h⟩ := h
  exact ⟨a, e, s _ _ h⟩
/-- all tuples stay -/
def Tk (H H' : Hp) : Prop := ∀ a xs, H a = some (.tup xs) → H' a = some (.tup xs)
theorem Tk.of {H H' : Hp} (s : Same H H') : Tk H H' := fun a xs h => s _ _ h
theorem Tk.upd {H : Hp} {p : Addr} {u o : HO} (h : H p = some u) (n : ∀ xs, u ≠ .tup xs) : Tk H (upd H p o) := fun a xs e => by
  rw [upd_ne (ne_of e h (fun z => n xs z.symm))]
  exact e
theorem Tk.trans {H H1 H2 : Hp} (a : Tk H H1) (b : Tk H1 H2) : Tk H H2 := fun x xs h => b _ _ (a _ _ h)
theorem Pool.tk {H : Hp} {p : Addr} {n : Nat} {o : HO} (h : Pool H p n) : Tk H (upd H p o) := by
  obtain ⟨xs, e⟩ := h.some
  exact Tk.upd e fun _ z => nomatch z
theorem But.tk {H H' : Hp} {p : Addr} {n : Nat} (b : But p H H') (h : Pool H p n) : Tk H H' := fun a xs e => by
  obtain ⟨ys, e2⟩ := h.some
  exact b _ _ e (ne_of e e2 fun z => nomatch z)
/-! ### places: an int for each name -/
def Places (H : Hp) (d : Addr) (ns : List Str) : Prop := ∃ kvs, H d = some (.dK kvs) ∧ kvs.length ≤ 1000 ∧ ∀ x ∈ ns, ∃ z : Int, valV kvs (.inr x) = some (.int z) ∧ -6 ≤ z ∧ z ≤ 15
theorem merge_all {Pv : V → Prop} (k : Key) : ∀ (more acc : List (Key × V)), (∀ e ∈ more, Pv e.2) → (k ∈ more.map (·.1) ∨ ∃ v, valV acc k = some v ∧ Pv v) → ∃ v, valV (mergeK acc more) k = some v ∧ Pv v
  | [], acc, _, h => by
    rcases h with h | h
    · cases h
    · exact h
  | e :: more, acc, hp, h => by
    show ∃ v, valV (mergeK (putK acc e.1 e.2) more) k = some v ∧ Pv v
    refine merge_all k more _ (fun x hx => hp x (List.mem_cons_of_mem _ hx)) ?_
    by_cases c : k = e.1
    · exact .inr ⟨e.2, by rw [valV_put, if_pos c], hp e List.mem_cons_self⟩
    · rcases h with h | ⟨v, h1, h2⟩
      · rw [List.map_cons] at h
        rcases List.mem_cons.mp h with z | z
        · exact absurd z c
        · exact .inl z
      · exact .inr ⟨v, by rw [valV_put, if_neg c]; exact h1, h2⟩
theorem length_mergeK' (more acc : List (Key × V)) : (mergeK acc more).length ≤ acc.length + more.length := by
  have h := length_mergeK more acc
  omega
/-- all but what stands at p and d is as it was -/
def But2 (p d : Addr) (H H' : Hp) : Prop := ∀ b o, H b = some o → b ≠ p → b ≠ d → H' b = some o
theorem But2.refl {p d : Addr} {H : Hp} : But2 p d H H := fun _ _ h _ _ => h
theorem But2.trans {p d : Addr} {H H1 H2 : Hp} (a : But2 p d H H1) (b : But2 p d H1 H2) : But2 p d H H2 := fun c o h n m => b c o (a c o h n m) n m
theorem But2.of {p d : Addr} {H H' : Hp} (a : But p H H') : But2 p d H H' := fun b o h n _ => a b o h n
theorem But2.same {p d : Addr} {H H' : Hp} (a : Same H H') : But2 p d H H' := fun b o h _ _ => a b o h
theorem But2.put {p d : Addr} {H H' : Hp} {o : HO} (a : But2 p d H H') : But2 p d H (upd H' d o) := fun b u e n m => by
  rw [upd_ne m]
  exact a b u e n m
theorem perm_paired {α β : Type} {F : α → β → Prop} : ∀ {bs as : List β} {xs : List α}, bs.Perm as → Paired F xs as → ∃ qs : List α, qs.Perm xs ∧ Paired F qs bs := by
  intro bs as xs h
  induction h generalizing xs with
  | nil => intro r; cases r; exact ⟨[], .refl _, .nil⟩
  | cons x h ih =>
    intro r
    cases r with
    | cons r1 r2 =>
      obtain ⟨qs, h1, h2⟩ := ih r2
      exact ⟨_ :: qs, List.Perm.cons _ h1, .cons r1 h2⟩
  | swap x y l =>
    intro r
    cases r with
    | cons r1 r2 =>
      cases r2 with
      | cons r2 r3 => exact ⟨_, List.Perm.swap _ _ _, .cons r2 (.cons r1 r3)⟩
  | trans h1 h2 ih1 ih2 =>
    intro r
    obtain ⟨qs, a1, a2⟩ := ih2 r
    obtain ⟨qs', b1, b2⟩ := ih1 a2
    exact ⟨qs', b1.trans a1, b2⟩
theorem paired_at {α β : Type} {F : α → β → Prop} : ∀ {xs : List α} {ys : List β} {i : Nat} {y : β}, Paired F xs ys → ys[i]? = some y → ∃ x, xs[i]? = some x ∧ F x y
  | _, _, 0, _, .cons r _, e => by
    simp at e
    subst e
    exact ⟨_, rfl, r⟩
  | _, _, i + 1, y, .cons _ t, e => by
    obtain ⟨x, h1, h2⟩ := paired_at (i := i) t (by simpa using e)
    exact ⟨x, by simpa using h1, h2⟩
theorem prsOf_len (ns ms : List Str) : (prsOf' ns ms).length ≤ ms.length * ns.length := by
  unfold prsOf'
  induction ms with
  | nil => simp
  | cons a ms ih =>
    rw [List.flatMap_cons, List.length_append, List.length_map, List.length_cons, Nat.succ_mul]
    have h := List.length_filter_le (fun b => decide (b ≠ a)) ns
    omega
theorem prsOf_mem {ns ms : List Str} {q : Pr} (h : q ∈ prsOf' ns ms) : q.1 ∈ ms ∧ q.2 ∈ ns ∧ q.2 ≠ q.1 := by
  unfold prsOf' at h
  obtain ⟨a, ha, h⟩ := List.mem_flatMap.mp h
  obtain ⟨b, hb, rfl⟩ := List.mem_map.mp h
  obtain ⟨h1, h2⟩ := List.mem_filter.mp hb
  exact ⟨ha, h1, of_decide_eq_true h2⟩
theorem prsOf_nd {ns ms : List Str} (h1 : ns.Nodup) (h2 : ms.Nodup) : (prsOf' ns ms).Nodup := by
  unfold prsOf'
  induction ms with
  | nil => exact List.nodup_nil
  | cons a ms ih =>
    obtain ⟨ha, hm⟩ := List.nodup_cons.mp h2
    rw [List.flatMap_cons]
    refine List.nodup_append.mpr ⟨?_, ih hm, fun x hx y hy e => ?_⟩
    · exact List.Pairwise.map (fun b => (a, b)) (fun x y hne e => hne (Prod.mk.inj e).2) (List.Pairwise.filter _ h1)
    · subst e
      obtain ⟨b, hb, rfl⟩ := List.mem_map.mp hx
      obtain ⟨c, hc, hy⟩ := List.mem_flatMap.mp hy
      obtain ⟨d, _, e⟩ := List.mem_map.mp hy
      exact ha ((Prod.mk.inj e).1 ▸ hc)
section
variable {P : Program} {w : World} {K : PySem.W.Frag} {mg : Str → Option Value} {base : Heap}
def GoodB (ns : List Str) (m : List (Pr × Bd)) : Prop := (m.map (·.1)).Nodup ∧ ∀ e ∈ m, e.1 ∈ prsOf ns ∧ True ∧ True ∧ (e.2.2 = 0 ∨ e.2.2 = 1)
def spDrawn (K : PySem.W.Frag) : Sp := fun vs H Q _ => ∃ (p l : Addr) (ns : List Str) (n : Nat), vs = [.ref p, .ref l] ∧ Pool H p n ∧ n + 2000 ≤ 1000000000 ∧ SqL K H l (ns.map V.str) ∧ l ≠ p ∧ ns.length ≤ 7 ∧ (("" : Str) :: ns).Nodup ∧
  ∀ (m : List (Pr × Bd)) (d : Addr) (H' : Hp), GoodB (("" : Str) :: ns) m → H d = none → But p H H' → Pool H' p (n + 2000) → DT RB H' d m → Q (.ref d) H'
def PvD (p l dp dm : Addr) (z : Int) (H8 : Hp) (qs : List Pr) (n : Nat) (i : Nat) (σ' : L2.St) (H' : Hp) : Prop := ∃ (u5 u6 u7 u8 u9 : Option V) (m : List (Pr × Bd)), σ' = [some (.ref p), some (.ref l), some (.ref dp), some (.ref dm), some (.bl (decide (0 < z))), u5, u6, u7, u8, u9] ∧ But2 p dm H8 H' ∧ Pool H' p (n + 200 + 5 * i) ∧
    DT RB H' dm m ∧ m.length ≤ i ∧ (m.map (·.1)).Nodup ∧ ∀ e ∈ m, e.1 ∈ qs.take i ∧ -1000 ≤ e.2.1 ∧ e.2.1 ≤ 1000 ∧ (e.2.2 = 0 ∨ e.2.2 = 1)
def nDrawn : List Str := ["_law_pool_here", "_law_names_here", "_law_places", "_law_found", "_law_is_kept", "_law_pair", "_law_gap", "_law_bound", "_law_n", "_law_one_here"]
theorem scDrawn : FnScope nDrawn ["_law_pool_here", "_law_names_here"] (defScope sDrawn) := ⟨rfl, rfl, rfl, by decide +kernel, rfl, by decide +kernel, by decide +kernel⟩
theorem ok_drawn {f ft fm fp fo : Addr} {fd fdt fdm fdp fdo : FuncData} (F : Fun K "_law_drawn" "_law_drawn" sDrawn f fd)
    (GT : FnOk P w K mg base CX0 1 ft fdt ["_law_pool_here", "_law_many"] spTake) (bT : Binds K fdt ["_law_pool_here", "_law_many"] []) (kT : PySem.W.keepIn K (.ref ft) = true) (mT : mg "_law_take" = some (.ref ft))
    (GM : FnOk P w K mg base CX0 2 fm fdm ["_law_pool_here", "_law_things"] (spMixed K)) (bM : Binds K fdm ["_law_pool_here", "_law_things"] []) (kM : PySem.W.keepIn K (.ref fm) = true) (mM : mg "_law_mixed" = some (.ref fm))
    (GP : FnOk P w K mg base CX0 1 fp fdp ["_law_ones"] (spPairs K)) (bP : Binds K fdp ["_law_ones"] []) (kP : PySem.W.keepIn K (.ref fp) = true) (mP : mg "_law_pairs" = some (.ref fp))
    (GO : FnOk P w K mg base CX0 2 fo fdo ["_law_pool_here", "_law_things"] (spOne K)) (bO : Binds K fdo ["_law_pool_here", "_law_things"] []) (kO : PySem.W.keepIn K (.ref fo) = true) (mO : mg "_law_one" = some (.ref fo))
    (md : mg "dict" = none) (mk : mg "list" = none) (mi : mg "int" = none) : FnOk P w K mg base CX0 3 f fd ["_law_pool_here", "_law_names_here"] (spDrawn K) := by
  refine F.ok scDrawn (fun vs H Q E h => ?_) (fun cdv A outer s H vs Q E hr h => ?_)
  · obtain ⟨p, l, ns, n, rfl, _⟩ := h
    rfl
  obtain ⟨p, l, ns, n, rfl, hP, hn, hS, hlp, hl7, hnd, q⟩ := h
  have hu := hu_of hr
  have hr1 : Room 1 _ := hr.mono (by decide)
  refine ⟨_, pss_cons (ps_par (i := 2) (j := 3) rfl scDrawn.nd rfl rfl (by decide) rfl rfl (pa_cons (pe_callTy (call_dictP rfl) rfl md PyProof.Rows.boot_dict (pa_cons
      (pe_lc (own := [("_law_one_here", 9)]) (g := gName 9) (tt := tYes) rfl scDrawn.nd (pi_list (pv 1)) (blkOk_by (N := nDrawn) (sc := defScope sDrawn) (by decide +kernel)) (fun _ _ _ _ _ => pg_name (i := 9) scDrawn.nd rfl (Or.inl rfl)) (fun _ _ _ _ _ => pts_nil)
        (fun _ _ _ _ _ => pe_tup (pa_cons (pv 9) (pa_cons (pe_op op_sub (pe_call GT hr1 rfl mT kT bT .nil pass0 (pa_cons (pv 0) (pa_cons pe_int pa_nil))) pe_int) pa_nil)))) pa_nil)) (pa_cons pe_dnewT pa_nil)) (by rfl))
    (pss_cons (ps_dput hu (pv 2) pe_str pe_int rfl)
    (pss_cons (ps_set (i := 4) scDrawn.nd rfl (Or.inl rfl) (pe_cmpR op_gt (pe_call GT hr1 rfl mT kT bT .nil pass0 (pa_cons (pv 0) (pa_cons pe_int pa_nil))) pe_int (nomark _)))
    (pss_cons (ps_for PassesOwn.never rfl (pi_list (pe_call GM hr rfl mM kM bM .nil pass0 (pa_cons (pv 0) (pa_cons (pe_call GP hr1 rfl mP kP bP .nil pass0 (pa_cons (pe_op op_cat (pe_lst (pa_cons pe_str pa_nil)) (pe_callTy call_list_of rfl mk PyProof.Rows.boot_list (pa_cons (pv 1) pa_nil))) pa_nil)) pa_nil)))) (pg_name (i := 5) scDrawn.nd rfl (Or.inl rfl))
      (pss_cons (ps_set (i := 6) scDrawn.nd rfl (Or.inl rfl) (pe_op op_sub (pe_dget hu (pv 2) (pe_ix ix_tup (pv 5) pe_int (fun _ _ => rfl)) (fun _ _ => rfl)) (pe_dget hu (pv 2) (pe_ix ix_tup (pv 5) pe_int (fun _ _ => rfl)) (fun _ _ => rfl))))
      (pss_one (ps_if (pt_cmpR op_lt (pe_call GT hr1 rfl mT kT bT .nil pass0 (pa_cons (pv 0) (pa_cons pe_int pa_nil))) pe_int (nomark _))
        (pss_cons (ps_set (i := 7) scDrawn.nd rfl (Or.inl rfl) (pe_tup (pa_cons (pe_op op_sub (pe_call GT hr1 rfl mT kT bT .nil pass0 (pa_cons (pv 0) (pa_cons pe_int pa_nil))) pe_int) (pa_cons (pe_callTy call_int1 rfl mi PyProof.Rows.boot_int (pa_cons (pe_cmpR op_eq (pe_call GT hr1 rfl mT kT bT .nil pass0 (pa_cons (pv 0) (pa_cons pe_int pa_nil))) pe_int (nomark _)) pa_nil)) pa_nil))))
        (pss_cons (ps_if (pt_val (pv 4))
          (pss_cons (ps_set (i := 8) scDrawn.nd rfl (Or.inl rfl) (pe_op op_sub (pe_call GO hr rfl mO kO bO .nil pass0 (pa_cons (pv 0) (pa_cons (pe_lst (pa_cons pe_int (pa_cons pe_int (pa_cons pe_int (pa_cons pe_int pa_nil))))) pa_nil))) (pe_op op_fdivN (pe_op op_sub pe_int (pv 6)) pe_int)))
          (pss_one (ps_set (i := 7) scDrawn.nd rfl (Or.inl rfl) (pe_tup (pa_cons (pv 8) (pa_cons (pe_callTy call_int1 rfl mi PyProof.Rows.boot_int (pa_cons (pe_and (pe_cmpR op_lt (pv 6) (pe_op op_mul pe_int (pv 8)) (nomark _)) (pe_one (pe_cmpR op_eq (pe_call GT hr1 rfl mT kT bT .nil pass0 (pa_cons (pv 0) (pa_cons pe_int pa_nil))) pe_int (nomark _)))) pa_nil)) pa_nil)))))) pss_nil)
        (pss_one (ps_dput hu (pv 3) (pv 5) (pv 7) rfl)))) pss_nil))))
    (pss_one (ps_ret (pv 3)))))), ?_⟩
  have e0 : (ns.map V.str).length = ns.length := List.length_map _
  refine ⟨_, rfl, l, rfl, ⟨_, hS⟩, fun D hD => ?_⟩
  have nDp : D ≠ p := hP.apart hD
  refine lc_mapI (S := But p) (walk_list (K := K) (a := l) (xs := ns.map V.str)) (stp_but nDp) hD (by omega) (ofL ns fun _ => true) (fun i H' => Pool H' p (n + i))
    (fun j H y => ∃ r, y = .ref r ∧ r ≠ p ∧ ∃ (x : Str) (z : Int), ns[j]? = some x ∧ H r = some (.tup [.str x, .int z]) ∧ -6 ≤ z ∧ z ≤ 15) ?_ ?_ ?_ ?_ ?_ ?_ ?_
  · rintro j H2 H3 y s2 ⟨r, rfl, nr, x, z, hx, h, h1, h2⟩
    exact ⟨r, rfl, nr, x, z, hx, s2 _ _ h nr, h1, h2⟩
  · rintro j H2 y acc o hacc ⟨r, rfl, nr, x, z, hx, h, h1, h2⟩
    exact ⟨r, rfl, nr, x, z, hx, by rw [upd_ne (ne_of h hacc (fun z => nomatch z))]; exact h, h1, h2⟩
  · exact hP.new hD
  · intro i H2 acc acc' _ h
    exact h.ne nDp
  · intro H2 s2
    exact s2.sqL hS hlp
  · rintro j x H2 H3 acc N Z hj s2 iv hacc ⟨rfl, hx⟩ hyes hno
    obtain ⟨c, hc, rfl⟩ : ∃ c, ns[j]? = some c ∧ x = .str c := by
      rw [List.getElem?_map] at hx
      cases e : ns[j]? with
      | none => rw [e] at hx; cases hx
      | some c => rw [e] at hx; exact ⟨c, rfl, (Option.some.inj hx).symm⟩
    refine ⟨rfl, ?_⟩
    refine iteT (B := Z H3) ?_
    refine ⟨_, rfl, _, rfl, p, 22, n + j, rfl, iv, by omega, by decide, by decide, fun z o z0 z1 hP3 => ?_⟩
    refine ⟨_, _, rfl, rfl, (by show 2 ≤ sizeLine; decide), fun r hr' => ?_⟩
    exact hyes (by rw [ofL_at hc]) _ _ (but_upd.new hr') ((hP3.mono (by omega)).new hr') ⟨r, rfl, hP3.apart hr', c, z - 6, hc, upd_same, by omega, by omega⟩
  intro ys H3 s3 iv3 e3 r3
  rw [e0] at r3 iv3
  have r4 : Paired (fun x y => ∃ r, y = .ref r ∧ ∃ z : Int, H3 r = some (.tup [.str x, .int z]) ∧ -6 ≤ z ∧ z ≤ 15) (ns.filter fun _ => true) ys :=
    chosen_whole (fun j c y hc ⟨r, hr, _, c', z, hc', h⟩ => ⟨r, hr, z, by rw [hc] at hc'; cases hc'; exact h⟩) r3
  rw [List.filter_eq_self.mpr fun _ _ => rfl] at r4
  obtain ⟨ps, rfl, r5⟩ := paired_refs r4
  obtain ⟨kvs, hk1, hk2, hk3⟩ : ∃ kvs : List (Key × V), Paired (fun a kv => SqT K H3 a [kV kv.1, kv.2]) ps kvs ∧ kvs.map (·.1) = ns.map Sum.inr ∧ ∀ e ∈ kvs, ∃ z : Int, e.2 = .int z ∧ -6 ≤ z ∧ z ≤ 15 := by
    clear r3 r4 e3 iv3 s3 e0 hS hl7 hnd hlp q
    induction r5 with
    | nil => exact ⟨[], .nil, rfl, fun _ h => nomatch h⟩
    | cons h t ih =>
      obtain ⟨kvs, h1, h2, h3⟩ := ih
      obtain ⟨z, hz, z1, z2⟩ := h
      refine ⟨(Sum.inr _, V.int z) :: kvs, .cons (.inl (.inl hz)) h1, by rw [List.map_cons, List.map_cons, h2], fun e he => ?_⟩
      rcases List.mem_cons.mp he with rfl | he
      · exact ⟨z, rfl, z1, z2⟩
      · exact h3 e he
  refine ⟨D, ps, kvs, rfl, SqL.of e3, hk1, fun dp hdp dm hdm => ⟨_, _, rfl, ?_⟩⟩
  have kl : kvs.length = ns.length := by
    have z := congrArg List.length hk2
    rwa [List.length_map, List.length_map] at z
  have npd : dp ≠ dm := ne_of_none upd_same hdm
  have ndpp : dp ≠ p := iv3.apart hdp
  have hdm' : H3 dm = none := by
    cases e : H3 dm with
    | none => rfl
    | some o => rw [same_new hdp _ dm o e] at hdm; cases hdm
  have ndmp : dm ≠ p := iv3.apart hdm'
  have hHdm : H dm = none := s3.none hdm' ndmp
  have hHdp : H dp = none := s3.none hdp ndpp
  have dp1 : (upd (upd H3 dp (.dK (mergeK [] kvs))) dm (.dT [])) dp = some (.dK (mergeK [] kvs)) := by rw [upd_ne npd]; exact upd_same
  have dm1 : (upd (upd H3 dp (.dK (mergeK [] kvs))) dm (.dT [])) dm = some (.dT []) := upd_same
  have b1 : But p H (upd (upd H3 dp (.dK (mergeK [] kvs))) dm (.dT [])) := (s3.new hdp).new hdm
  have p1 : Pool (upd (upd H3 dp (.dK (mergeK [] kvs))) dm (.dT [])) p (n + ns.length) := (iv3.new hdp).new hdm
  generalize upd (upd H3 dp (.dK (mergeK [] kvs))) dm (.dT []) = H4 at dp1 dm1 b1 p1
  have ml : (mergeK ([] : List (Key × V)) kvs).length ≤ 7 := by
    have z := length_mergeK' kvs []
    rw [List.length_nil] at z
    omega
  refine ⟨_, rfl, dp, _, rfl, DPut.k (k := Sum.inr "") dp1 (small1000' (by omega)), ?_⟩
  have pl2 : Places (upd H4 dp (.dK (putK (mergeK [] kvs) (Sum.inr "") (V.int 0)))) dp (("" : Str) :: ns) := by
    refine ⟨_, upd_same, ?_, fun x hx => ?_⟩
    · have z := length_putK (mergeK [] kvs) (Sum.inr "" : Key) (V.int 0)
      omega
    · rw [valV_put]
      by_cases c : x = ""
      · rw [if_pos (by rw [c])]
        exact ⟨0, rfl, by decide, by decide⟩
      · rw [if_neg (fun z => c (Sum.inr.inj z))]
        obtain ⟨v, h1, z, h2, h3, h4⟩ := merge_all (Pv := fun v => ∃ z : Int, v = .int z ∧ -6 ≤ z ∧ z ≤ 15) (Sum.inr x) kvs [] (fun e he => hk3 e he) (.inl (by
          rw [hk2]
          exact List.mem_map.mpr ⟨x, (List.mem_cons.mp hx).resolve_left c, rfl⟩))
        subst h2
        exact ⟨z, h1, h3, h4⟩
  have dm2 : (upd H4 dp (.dK (putK (mergeK [] kvs) (Sum.inr "") (V.int 0)))) dm = some (.dT []) := by rw [upd_ne npd.symm]; exact dm1
  have b2 : But p H (upd H4 dp (.dK (putK (mergeK [] kvs) (Sum.inr "") (V.int 0)))) := b1.mut hHdp
  have p2 := p1.ne (o := .dK (putK (mergeK [] kvs) (Sum.inr "") (V.int 0))) ndpp
  generalize upd H4 dp (.dK (putK (mergeK [] kvs) (Sum.inr "") (V.int 0))) = H5 at pl2 dm2 b2 p2
  clear dp1 dm1 b1 p1 hdp hdm ml hk1 hk3 hk2 r5 r3 r4
  refine ⟨_, rfl, p, 4, n + ns.length, rfl, p2, by omega, by decide, by decide, fun z o _ _ p3 => ⟨_, _, rfl, rfl, ?_⟩⟩
  have pl3 : Places (upd H5 p o) dp (("" : Str) :: ns) := by
    obtain ⟨kvs, e, r⟩ := pl2
    exact ⟨kvs, by rw [upd_ne ndpp]; exact e, r⟩
  have dm3 : (upd H5 p o) dm = some (.dT []) := by rw [upd_ne ndmp]; exact dm2
  have b3 : But p H (upd H5 p o) := b2.put
  generalize upd H5 p o = H6 at pl3 dm3 b3 p3
  clear pl2 dm2 b2 p2
  -- the loop's list
  refine ⟨_, rfl, (by show 1 ≤ sizeLine; decide), fun a1 ha1 => ⟨_, rfl, l, _, rfl, .inl ((b3.new ha1).sqL hS hlp), fun a2 ha2 => ?_⟩⟩
  refine ⟨a1, a2, _, _, rfl, rfl, same_new ha2 _ _ _ upd_same, upd_same, ?_, fun a3 ha3 => ?_⟩
  · rw [e0]
    exact Nat.le_trans (show _ ≤ 100 by show 1 + ns.length ≤ 100; omega) (by decide)
  have s6 : Same H6 (upd (upd (upd H6 a1 (.lst [V.str ""])) a2 (.lst (ns.map V.str))) a3 (.lst ([V.str ""] ++ ns.map V.str))) := ((same_new ha1 _).trans (same_new ha2 _)).trans (same_new ha3 _)
  refine ⟨a3, ("" : Str) :: ns, rfl, SqL.of upd_same, by rw [List.length_cons]; omega, fun as r H7 hr7 s7 tl er => ?_⟩
  have p7 : Pool H7 p (n + ns.length + 1) := by
    obtain ⟨a, b, c, e, h⟩ := p3
    exact ⟨a, b, c, s7 _ _ (s6 _ _ e), h⟩
  have nrp : r ≠ p := by
    obtain ⟨xs, e⟩ := p3.some
    exact (ne_of_none (s6 _ _ e) hr7).symm
  have lpr : (prsOf (("" : Str) :: ns)).length ≤ 64 := by
    have z := prsOf_len (("" : Str) :: ns) (("" : Str) :: ns)
    rw [List.length_cons] at z
    have z2 : (ns.length + 1) * (ns.length + 1) ≤ 8 * 8 := Nat.mul_le_mul (by omega) (by omega)
    exact Nat.le_trans z z2
  have las : as.length = (prsOf (("" : Str) :: ns)).length := (Paired.length tl).symm
  refine ⟨p, r, as.map V.ref, n + ns.length + 1, rfl, p7, by rw [List.length_map]; omega, .inl (SqL.of er), nrp, by rw [List.length_map]; omega, fun ys r2 H8 pm hr8 b8 p8 er8 => ?_⟩
  rw [List.length_map] at p8
  obtain ⟨bs, hbs, rfl⟩ := perm_map_inv pm
  obtain ⟨qs, hqs, tl2⟩ := perm_paired hbs tl
  have tl3 : Paired (fun q a => IsPr H8 a q) qs bs := Rw.Paired.imp tl2 fun q a _ h => (b8.tk p7) _ _ h
  have b8' : But p H6 H8 := (But.of (s6.trans s7)).trans b8
  have dm8 : H8 dm = some (.dT []) := b8' _ _ dm3 ndmp
  have pl8 : Places H8 dp (("" : Str) :: ns) := by
    obtain ⟨kvs, e, r⟩ := pl3
    exact ⟨kvs, b8' _ _ e ndpp, r⟩
  have nrd : r2 ≠ dm := ne_of er8 dm8 fun z => nomatch z
  have nrp2 : r2 ≠ p := by
    obtain ⟨xs, e⟩ := p7.some
    exact (ne_of_none e hr8).symm
  have bH8 : But p H H8 := b3.trans b8'
  have hq64 : qs.length ≤ 64 := by rw [hqs.length_eq]; exact lpr
  have p8 : Pool H8 p (n + 200) := p8.mono (by omega)
  have qnd : qs.Nodup := hqs.nodup_iff.mpr (prsOf_nd hnd hnd)
  have qin : ∀ q ∈ qs, q ∈ prsOf (("" : Str) :: ns) := fun q h => hqs.mem_iff.mp h
  have lb : bs.length = qs.length := (Paired.length tl3).symm
  refine ⟨r2, rfl, ⟨_, SqL.of er8⟩, for_list (xs := bs.map V.ref) (PvD p l dp dm z H8 qs n) ?_ ?_ ?_ ?_⟩
  · exact ⟨none, none, none, none, none, [], rfl, .refl, p8, ⟨[], dm8, .nil⟩, Nat.le_refl _, List.nodup_nil, fun _ h => nomatch h⟩
  · rintro i σ' H' _ ⟨u5, u6, u7, u8, u9, m, rfl, hB, _⟩
    exact SqL.of (hB _ _ er8 nrp2 nrd)
  · rintro i x σ' H' hx ⟨u5, u6, u7, u8, u9, m, rfl, hB, hPo, hD, hm1, hm2, hm3⟩
    obtain ⟨a, ha, rfl⟩ : ∃ a, bs[i]? = some a ∧ x = .ref a := by
      rw [List.getElem?_map] at hx
      cases e : bs[i]? with
      | none => rw [e] at hx; cases hx
      | some a => rw [e] at hx; exact ⟨a, rfl, (Option.some.inj hx).symm⟩
    obtain ⟨pr, hpr, hia⟩ := paired_at tl3 ha
    have hi : i < bs.length := (List.getElem?_eq_some_iff.mp ha).1
    have nap : a ≠ p := by
      obtain ⟨xs, e⟩ := p8.some
      exact ne_of hia e fun z => nomatch z
    have nad : a ≠ dm := ne_of hia dm8 fun z => nomatch z
    have hiaH : IsPr H' a pr := hB _ _ hia nap nad
    have pmem := prsOf_mem (qin pr (List.mem_of_getElem? hpr))
    obtain ⟨kv8, ek8, _, hk8⟩ := pl8
    have ekH : H' dp = some (.dK kv8) := hB _ _ ek8 ndpp npd
    obtain ⟨z1, hz1, z1a, z1b⟩ := hk8 pr.1 pmem.1
    obtain ⟨z2, hz2, z2a, z2b⟩ := hk8 pr.2 pmem.2.1
    have g1 : DGet H' dp (.str pr.1) (some (.int z1)) := by
      have z := DGet.k (k := Sum.inr pr.1) ekH
      rw [hz1] at z
      exact z
    have g2 : DGet H' dp (.str pr.2) (some (.int z2)) := by
      have z := DGet.k (k := Sum.inr pr.2) ekH
      rw [hz2] at z
      exact z
    have at0 : ∀ x y : V, atI [x, y] 0 = some x := fun _ _ => rfl
    have at1 : ∀ x y : V, atI [x, y] 1 = some y := fun _ _ => rfl
    -- the turn's end: the pair is stored
    have fin : ∀ (u6 u8 : Option V) (H9 : Hp) (bd : Bd) (b : Addr) (c : Nat), But2 p dm H' H9 → Pool H9 p c → c ≤ n + 200 + 5 * (i + 1) → DT RB H9 dm m → H9 b = some (.tup [.int bd.1, .int bd.2]) → -1000 ≤ bd.1 → bd.1 ≤ 1000 → (bd.2 = 0 ∨ bd.2 = 1) →
        ∀ D : Ends, D.nx = PvD p l dp dm z H8 qs n (i + 1) → sDPut (tVar 3) (tVar 5) (tVar 7) D
          [some (.ref p), some (.ref l), some (.ref dp), some (.ref dm), some (.bl (decide (0 < z))), some (.ref a), u6, some (.ref b), u8, u9] H9 := by
      intro u6 u8 H9 bd b c hB9 hP9 hc hD9 hb h1 h2 h3 De hDe
      obtain ⟨kvs, ek, r⟩ := hD9
      have hl : kvs.length = m.length := (Paired.length r).symm
      have hnew : pr ∉ m.map (·.1) := fun hin => by
        obtain ⟨e, he, h⟩ := List.mem_map.mp hin
        have z := (hm3 e he).1
        rw [h] at z
        obtain ⟨j, hj, e2⟩ := List.mem_iff_getElem.mp z
        rw [List.length_take] at hj
        rw [List.getElem_take] at e2
        have z2 : qs[j]? = some pr := by rw [List.getElem?_eq_getElem (by omega), e2]
        have z3 := nd_ix qnd z2 hpr
        omega
      have hln : look m pr = none := by
        cases e : look m pr with
        | none => rfl
        | some b =>
          unfold look at e
          cases e2 : m.find? fun e => decide (e.1 = pr) with
          | none => rw [e2] at e; cases e
          | some x =>
            have z := List.find?_some e2
            exact absurd (List.mem_map.mpr ⟨x, List.mem_of_find?_eq_some e2, of_decide_eq_true z⟩) hnew
      have hvn : valV kvs (key2 pr) = none := by
        rcases pl_look (R := fun v b => RB H9 v b) pr r with z | ⟨b, v, z, _⟩
        · exact z.2
        · rw [hln] at z; cases z
      refine ⟨_, rfl, _, rfl, _, rfl, dm, _, rfl, DPut.t (k := key2 pr) ek (hB9 _ _ hiaH nap nad) (small1000' (by omega)), ?_⟩
      rw [putK_new _ hvn, hDe]
      refine ⟨some (.ref a), u6, some (.ref b), u8, u9, m ++ [(pr, bd)], rfl, (hB.trans hB9).put, (hP9.mono hc).ne ndmp.symm.symm, ?_, ?_, ?_, ?_⟩
      · refine ⟨_, upd_same, Rw.Paired.snoc (Rw.Paired.imp r fun e kv _ h => ⟨h.1, h.2.mono (Tk.upd ek fun _ z => nomatch z)⟩) ⟨rfl, b, rfl, Tk.upd ek (fun _ z => nomatch z) _ _ hb⟩⟩
      · rw [List.length_append, List.length_singleton]; omega
      · rw [List.map_append]
        exact nd_snoc hm2 hnew
      · intro e he
        rcases List.mem_append.mp he with h | h
        · obtain ⟨y1, y2⟩ := hm3 e h
          refine ⟨?_, y2⟩
          rw [List.take_succ]
          exact List.mem_append_left _ y1
        · have e2 : e = (pr, bd) := List.mem_singleton.mp h
          subst e2
          refine ⟨?_, h1, h2, h3⟩
          rw [List.take_succ, hpr]
          exact List.mem_append_right _ (List.mem_singleton.mpr rfl)
    refine ⟨_, rfl, _, rfl, a, _, _, _, rfl, rfl, SqT.of hiaH, at0 _ _, dp, _, rfl, g1, _, rfl, _, rfl, a, _, _, _, rfl, rfl, SqT.of hiaH, at1 _ _, dp, _, rfl, g2, _, _, rfl, rfl, ?_⟩
    refine ⟨_, rfl, p, 5, n + 200 + 5 * i, rfl, hPo, by omega, by decide, by decide, fun y5 o5 _ _ hP5 => ⟨_, _, rfl, rfl, _, rfl, ?_⟩⟩
    have dtk : ∀ (H1 H2 : Hp) (c : Nat) (o : HO), Pool H1 p c → DT RB H1 dm m → DT RB (upd H1 p o) dm m := fun H1 H2 c o h1 h2 => h2.mono (fun o' e => by rw [upd_ne ndmp]; exact e) fun v b h => h.mono h1.tk
    have dtn : ∀ (H1 : Hp) (x : Addr) (o : HO), H1 x = none → DT RB H1 dm m → DT RB (upd H1 x o) dm m := fun H1 x o h1 h2 => h2.mono (fun o' e => same_new h1 _ _ _ e) fun v b h => h.mono (Tk.of (same_new h1 _))
    have hB5 : But2 p dm H' (upd H' p o5) := But2.of but_upd
    have hD5 := dtk H' H' _ o5 hPo hD
    generalize upd H' p o5 = H10 at hP5 hB5 hD5
    refine ite2 (fun h => ?_) (fun h => ?_)
    · refine ⟨_, rfl, p, 8, _, rfl, hP5, by omega, by decide, by decide, fun y8 o8 y8a y8b hP8 => ⟨_, _, rfl, rfl, _, rfl, p, 3, _, rfl, hP8, by omega, by decide, by decide, fun y3 o3 _ _ hP3 => ⟨rfl, .inr ⟨_, rfl, (by show 2 ≤ sizeLine; decide), fun b1 hb1 => ?_⟩⟩⟩⟩
      have hBa : But2 p dm H' (upd (upd (upd H10 p o8) p o3) b1 (.tup [.int (y8 - 3), .int (if decide (V.int y3 = .int 0) = true then 1 else 0)])) := hB5.trans (But2.of (((but_upd (o := o8)).trans (but_upd (o := o3))).new hb1))
      have hDa : DT RB (upd (upd (upd H10 p o8) p o3) b1 (.tup [.int (y8 - 3), .int (if decide (V.int y3 = .int 0) = true then 1 else 0)])) dm m := dtn _ _ _ hb1 (dtk _ H' _ _ hP8 (dtk _ H' _ _ hP5 hD5))
      have hPa := hP3.new (o := .tup [.int (y8 - 3), .int (if decide (V.int y3 = .int 0) = true then 1 else 0)]) hb1
      have hTa : (upd (upd (upd H10 p o8) p o3) b1 (.tup [.int (y8 - 3), .int (if decide (V.int y3 = .int 0) = true then 1 else 0)])) b1 = some (.tup [.int (y8 - 3), .int (if decide (V.int y3 = .int 0) = true then 1 else 0)]) := upd_same
      generalize upd (upd (upd H10 p o8) p o3) b1 (.tup [.int (y8 - 3), .int (if decide (V.int y3 = .int 0) = true then 1 else 0)]) = H11 at hBa hDa hPa hTa
      have s01 : ∀ c : Bool, (if c = true then (1 : Int) else 0) = 0 ∨ (if c = true then (1 : Int) else 0) = 1 := fun c => by cases c <;> simp
      refine ⟨_, rfl, _, rfl, ?_⟩
      refine ite2 (fun h => ?_) (fun h => ?_)
      · refine ⟨_, rfl, (by show 4 ≤ sizeLine; decide), fun b2 hb2 => ?_⟩
        refine ⟨p, b2, _, _, rfl, hPa.new hb2, by omega, .inl (SqL.of upd_same), hPa.apart hb2, by decide, by decide, fun k v o9 hk hP9 => ?_⟩
        obtain ⟨c9, rfl, c9a, c9b⟩ : ∃ c : Int, v = .int c ∧ 0 ≤ c ∧ c ≤ 3 := by
          match k, hk with
          | 0, hk => exact ⟨0, (Option.some.inj hk).symm, by decide, by decide⟩
          | 1, hk => exact ⟨0, (Option.some.inj hk).symm, by decide, by decide⟩
          | 2, hk => exact ⟨1, (Option.some.inj hk).symm, by decide, by decide⟩
          | 3, hk => exact ⟨3, (Option.some.inj hk).symm, by decide, by decide⟩
        refine ⟨_, rfl, _, _, rfl, rfl, _, _, rfl, rfl, ⟨by decide, by decide⟩, _, _, rfl, rfl, ?_⟩
        have hq1 : -100 ≤ c9 - (0 - (z1 - z2)).fdiv 3 ∧ c9 - (0 - (z1 - z2)).fdiv 3 ≤ 100 := by
          rw [Int.fdiv_eq_ediv_of_nonneg _ (by decide)]
          omega
        have hBb := hBa.trans (But2.of (d := dm) ((But.refl (p := p).new (o := .lst [V.int 0, .int 0, .int 1, .int 3]) hb2).trans (but_upd (o := o9))))
        have hDb := dtk _ H' _ o9 (hPa.new hb2) (dtn _ _ (.lst [V.int 0, .int 0, .int 1, .int 3]) hb2 hDa)
        generalize upd (upd H11 b2 (.lst [V.int 0, .int 0, .int 1, .int 3])) p o9 = H12 at hBb hDb hP9
        refine ⟨_, rfl, _, rfl, _, rfl, _, _, rfl, rfl, .inl (by decide), _, _, rfl, rfl, _, rfl, ?_⟩
        refine ite2 (fun h => ?_) (fun h => ?_)
        · refine ⟨_, rfl, p, 2, _, rfl, hP9, by omega, by decide, by decide, fun y2 o2 _ _ hP2 => ⟨rfl, .inr ⟨_, rfl, (by show 2 ≤ sizeLine; decide), fun b3 hb3 => ?_⟩⟩⟩
          exact fin _ _ _ (c9 - (0 - (z1 - z2)).fdiv 3, if decide (V.int y2 = .int 0) = true then 1 else 0) b3 _ (hBb.trans (But2.of ((but_upd (o := o2)).new hb3))) (hP2.new hb3) (by omega) (dtn _ _ _ hb3 (dtk _ H' _ _ hP9 hDb)) upd_same (by show -1000 ≤ c9 - _; omega) (by show c9 - _ ≤ 1000; omega) (s01 _) _ rfl
        · refine .inr ⟨_, rfl, (by show 2 ≤ sizeLine; decide), fun b3 hb3 => ?_⟩
          exact fin _ _ _ (c9 - (0 - (z1 - z2)).fdiv 3, 0) b3 _ (hBb.trans (But2.of (But.refl.new hb3))) (hP9.new hb3) (by omega) (dtn _ _ _ hb3 hDb) upd_same (by show -1000 ≤ c9 - _; omega) (by show c9 - _ ≤ 1000; omega) (.inl rfl) _ rfl
      · exact fin _ _ _ (y8 - 3, if decide (V.int y3 = .int 0) = true then 1 else 0) b1 _ hBa hPa (by omega) hDa hTa (by show -1000 ≤ y8 - 3; omega) (by show y8 - 3 ≤ 1000; omega) (s01 _) _ rfl
    · exact ⟨_, _, _, _, _, m, rfl, hB.trans hB5, hP5.mono (by omega), hD5, by omega, hm2, fun e he => ⟨by rw [List.take_succ]; exact List.mem_append_left _ (hm3 e he).1, (hm3 e he).2⟩⟩
  · rintro σ' H' ⟨u5, u6, u7, u8, u9, m, rfl, hB, hPo, hD, hm1, hm2, hm3⟩
    rw [List.length_map] at hPo hm1 hm3
    refine ⟨_, rfl, q m dm H' ⟨hm2, fun e he => ?_⟩ hHdm (fun b o e nb => ?_) (hPo.mono (by omega)) hD⟩
    · obtain ⟨h1, h2⟩ := hm3 e he
      exact ⟨qin _ (List.mem_of_mem_take h1), trivial, trivial, h2.2.2⟩
    · exact hB b o (bH8 b o e nb) nb (ne_of_none e hHdm)
end
end Rw
set_option Elab.async false
set_option linter.all false
set_option maxRecDepth 100000
set_option maxHeartbeats 4000000
namespace Rw
open PySem L2
section
variable {X : Cx}
/-- what stands in a list of pairs, each of a key's tuple and a worth -/
theorem keyed_of {pins : List (Addr × Obj)} {σ : L2.St} {H : Hp} {s : Shared} (I : Inv X pins σ H s) : ∀ {ps : List Addr} {kvs : List (List Key × V)}, Paired (fun p kv => ∃ b, H p = some (.tup [.ref b, kv.2]) ∧ H b = some (.tup (kv.1.map kV))) ps kvs →
    ∃ xs : List (List Key × Addr × Value), KT H kvs xs ∧ xs.length = ps.length ∧ ∀ (j : Nat) (x : List Key × Addr × Value), xs[j]? = some x → ∃ p, ps[j]? = some p ∧ PyProof.Rows.IsTup s.heap p #[.ref x.2.1, x.2.2] ∧ (tupleKind (mixKind X.prog X.w)).is s.heap x.1 x.2.1
  | _, _, .nil => ⟨[], .nil, rfl, fun j x e => by simp at e⟩
  | p :: ps, kv :: kvs, .cons h t => by
    obtain ⟨xs, r, hl, hx⟩ := keyed_of I t
    obtain ⟨b, hp, hb⟩ := h
    obtain ⟨_, its, rv, ht⟩ := (show ObjOk X.prog X.w H s.heap p (.tup [.ref b, kv.2]) from I.hok p _ hp)
    obtain ⟨u, y, ei, ru, ry⟩ := vals2 rv
    subst ei
    cases (show u = Value.ref b from ru)
    refine ⟨(kv.1, b, y) :: xs, .cons ⟨rfl, hb, ry⟩ r, by rw [List.length_cons, List.length_cons, hl], fun j x e => ?_⟩
    cases j with
    | zero =>
      have e' : (kv.1, b, y) = x := Option.some.inj e
      subst e'
      exact ⟨p, rfl, ht, key_of I.hok hb⟩
    | succ j =>
      obtain ⟨q, e1, e2⟩ := hx j x (by simpa using e)
      exact ⟨q, by simpa using e1, e2⟩
theorem kt_keys {H : Hp} : ∀ {kvs : List (List Key × V)} {xs : List (List Key × Addr × Value)}, KT H kvs xs → xs.map (·.1) = kvs.map (·.1)
  | _, _, .nil => rfl
  | _, _, .cons h t => by rw [List.map_cons, List.map_cons, kt_keys t, h.1]
/-- dict(..) of a list of pairs (tuple, worth), the tuples unlike -/
theorem call_dictT (hc : X.calm = true) (hu : X.A.units + 2 < cLine) : CallR X (.type "dict") (fun xs H Q => ∃ (a : Addr) (ps : List Addr) (kvs : List (List Key × V)), xs = [.ref a] ∧ SqL X.K H a (ps.map V.ref) ∧
    Paired (fun p kv => ∃ b, H p = some (.tup [.ref b, kv.2]) ∧ H b = some (.tup (kv.1.map kV))) ps kvs ∧ (kvs.map (·.1)).Nodup ∧ ∀ p, H p = none → Q (.ref p) (upd H p (.dT kvs))) := by
  intro pins s σ H xs us Q I r q
  obtain ⟨a, ps, kvs, ex, hq, hp, hnd, q⟩ := q
  subst ex
  obtain ⟨u, eu, rx⟩ := vals1 r
  subst eu
  cases rx
  obtain ⟨its, rv, pl, hz⟩ := I.list hq
  have ei := refs_at rv
  subst ei
  rw [List.length_map] at hz
  obtain ⟨ys, rel, hl, hys⟩ := keyed_of I hp
  obtain ⟨o, n, ho, hcl, hd, hdat⟩ := pl
  have nd2 : (ys.map (·.1)).Nodup := by rw [kt_keys rel]; exact hnd
  have hitems : PairItems s.heap (ps.map Value.ref).toArray (fun j => ps.getD j 0) (ys.map fun x => (Value.ref x.2.1, x.2.2)) := by
    refine ⟨by simp [hl], fun j k v e => ?_⟩
    rw [List.getElem?_map] at e
    cases ex : ys[j]? with
    | none => rw [ex] at e; cases e
    | some x =>
      rw [ex] at e
      have e2 : (Value.ref x.2.1, x.2.2) = (k, v) := Option.some.inj e
      injection e2 with e3 e4
      subst e3 e4
      obtain ⟨p, h1, h2, _⟩ := hys j x ex
      have h3 : ps.getD j 0 = p := by rw [List.getD_eq_getElem?_getD, h1] <;> rfl
      refine ⟨by simp [h1, h3], .inl ?_⟩
      show s.heap.IsTuple (ps.getD j 0) #[Value.ref x.2.1, x.2.2]
      rw [h3]
      obtain ⟨ob, z1, z2, n2, z3⟩ := h2
      exact ⟨ob, z1, z2, n2, z3⟩
  refine PySem.call_dict_pairsH (knd := tupleKind (mixKind X.prog X.w)) (ps := ys) (PairArg.list a _ (fun j => ps.getD j 0) (ys.map fun x => (Value.ref x.2.1, x.2.2))) (I.ok.hd hc) ?_ ⟨⟨o, n, ho, hcl, hd, hdat⟩, hitems⟩ ?_ ?_ ?_ ?_
  · show X.A.units + 2 < cLine
    exact hu
  · refine ⟨by simp, fun i key v e => ?_⟩
    have e : (ys.map fun x => (Value.ref x.2.1, x.2.2))[i]? = some (key, v) := e
    rw [List.getElem?_map] at e
    cases ex : ys[i]? with
    | none => rw [ex] at e; cases e
    | some x =>
      rw [ex] at e
      have e2 : (Value.ref x.2.1, x.2.2) = (key, v) := Option.some.inj e
      injection e2 with e3 e4
      subst e3 e4
      exact ⟨x.1, x.2.1, rfl, rfl⟩
  · intro h' hk x hx
    obtain ⟨j, hj, e⟩ := List.mem_iff_getElem.mp hx
    obtain ⟨p, _, _, ob, items, n2, z1, z2, z3, z4⟩ := hys j x (by rw [List.getElem?_eq_getElem hj, e])
    exact ⟨ob, items, n2, hk _ _ (Nat.ne_of_lt (Heap.lt_size z1)) (fun z => nomatch z) z1, z2, z3, z4⟩
  · rw [List.length_map, hl]
    exact hz
  intro h' tk hd' k
  rw [storedAllH_nil_of_nodup _ nd2] at hd'
  have hm : (s.heap.objs.size == sysModules) = false := beq_eq_false_iff_ne.mpr (Nat.ne_of_gt I.big)
  have kk : ∀ b o, s.heap.get? b = some o → h'.get? b = some o := fun b o e => k b o (fun z => nomatch z) e
  have hn := I.hok.fresh (Nat.le_refl s.heap.objs.size)
  obtain ⟨ob, es, ep, z1, z2, z3, z4, _, z5⟩ := hd'
  refine ⟨.ref s.heap.objs.size, upd H s.heap.objs.size (.dT kvs), I.laid (t' := tk) kk (Nat.le_refl _) ?_, rfl, q _ hn⟩
  refine ⟨by rw [Paired.length rel, hl]; exact hz, hm, ys, rel.keeps fun b xs e => ?_, ob, es, ep, z1, z2, z3, z4, z5⟩
  rw [upd_ne (ne_of_none e hn)]
  exact e
end
end Rw
set_option Elab.async false
set_option linter.all false
set_option maxRecDepth 100000
set_option maxHeartbeats 4000000
namespace Rw
open PySem L2
section
variable {prog : Program} {w : World} {κ : Type} [DecidableEq κ] {knd : HeapKind prog w κ} {A : Around} {E : Value → Shared → Prop} {s : Shared}
/-- of the entries on the left, whether each has its like on the right -/
inductive Agree (A : Around) (s : Shared) (ys : List (κ × Addr × Value)) : List (κ × Addr × Value) → Bool → Prop
  | done : Agree A s ys [] true
  | lack {x : κ × Addr × Value} {r : List (κ × Addr × Value)} : atKey ys x.1 = none → Agree A s ys (x :: r) false
  | meet {x : κ × Addr × Value} {r : List (κ × Addr × Value)} {p : Addr × Value} {e b : Bool} : atKey ys x.1 = some p → SeqAt.EqAt A s x.2.2 p.2 e → Agree A s ys r b → Agree A s ys (x :: r) (e && b)
theorem same_heap {nm : String} {a b : Addr} {xs ys : List (κ × Addr × Value)} {g : Bool} {Q : Bool → Shared → Prop} (na : (a == sysModules) = false) (nb : (b == sysModules) = false) (hu : knd.room A)
    (da : s.heap.DictOfH knd a xs) (db : s.heap.DictOfH knd b ys) (ag : xs.length = ys.length → Agree A s ys xs g) (q : Q (xs.length == ys.length && g) s) : wpAny (model prog w) A (Builtin.Dict.samePairs nm a b) Q E s := by
  obtain ⟨o1, e1, p1, g1, _, d1, t1, k1, n1⟩ := da
  obtain ⟨o2, e2, p2, g2, _, d2, t2, k2, n2⟩ := db
  have z1 : e1.size = xs.length := size_of_entries t1
  have z2 : e2.size = ys.length := size_of_entries t2
  unfold Builtin.Dict.samePairs Builtin.Dict.showsAll
  simp only [na, nb, Bool.false_eq_true, if_false]
  refine wpAny_bind (wpAny_pure (wpAny_bind (wpAny_pure (wpAny_bind (wpAny_dictEntries g1 d1 (wpAny_bind (wpAny_dictEntries g2 d2 ?_)))))))
  by_cases hz : xs.length = ys.length
  case neg =>
    have hne : (e1.size != e2.size) = true := by rw [z1, z2]; simpa using hz
    have hb : (xs.length == ys.length) = false := by simpa using hz
    rw [hb, Bool.false_and] at q
    simp only [hne, if_true]
    exact wpAny_bind (wpAny_rule (wpAny_pure q))
  have hne : (e1.size != e2.size) = false := by rw [z1, z2, hz]; simp
  have q' : Q g s := by simpa [hz] using q
  have ag := ag hz
  simp only [hne, Bool.false_eq_true, if_false]
  refine wpAny_bind (wpAny_dictEpoch g1 d1 (wpAny_bind ?_))
  simp only [Std.Legacy.Range.forIn_eq_forIn_range', Std.Legacy.Range.size, Nat.sub_zero, Nat.add_sub_cancel, Nat.div_one]
  refine wpAny_forIn_list _ (fun l c s1 => s1 = s ∧ c = (none, ()) ∧ ∃ i, l = List.range' i (e1.size - i) ∧ i ≤ e1.size ∧ Agree A s ys (xs.drop i) g) _ (fun j l c s1 hI => ?_) (fun c s1 hI => ?_) _ _ ⟨rfl, rfl, 0, by simp, Nat.zero_le _, ag⟩
  · obtain ⟨rfl, rfl, i, hl, hi, ag⟩ := hI
    have lt : i < e1.size := by
      refine Nat.lt_of_not_le fun h => ?_
      rw [Nat.sub_eq_zero_of_le h] at hl
      cases hl
    rw [show e1.size - i = (e1.size - (i + 1)) + 1 by omega, List.range'_succ] at hl
    injection hl with hj hl
    subst hj
    have lt' : j < xs.length := by omega
    have ex : e1[j]? = some (entryOfKey knd xs[j]) := by rw [entry_at t1 j, List.getElem?_eq_getElem lt'] <;> rfl
    have hd : xs.drop j = xs[j] :: xs.drop (j + 1) := List.drop_eq_getElem_cons lt'
    rw [hd] at ag
    refine wpAny_bind (wpAny_dictEntries g1 d1 ?_)
    rw [ex]
    refine wpAny_bind (wpAny_holding (wpAny_bind (wpAny_dictFind_heap hu (k1 _ (List.getElem_mem lt')) g2 d2 t2 k2 n2 (fun hno => ?_) (fun m p hp => ?_))))
    · have hn : atKey ys xs[j].1 = none := atKey_none_of_get hno
      cases ag with
      | lack _ => exact wpAny_pure (wpAny_pure (wpAny_pure q'))
      | meet h _ _ => rw [hn] at h; cases h
    · have hs : atKey ys xs[j].1 = some p := atKey_of_get n2 hp
      refine wpAny_bind (wpAny_dictEntries g2 d2 ?_)
      rw [entry_at t2 m, hp]
      cases ag with
      | lack h => rw [hs] at h; cases h
      | @meet _ _ p' e b h he hr =>
        rw [hs] at h
        cases h
        refine wpAny_holding (he prog w _ _ ?_)
        cases e with
        | false => exact wpAny_pure (wpAny_pure q')
        | true =>
          rw [Bool.true_and] at q'
          refine wpAny_bind (wpAny_dictEpoch g1 d1 ?_)
          simp only [bne_self_eq_false, Bool.false_eq_true, if_false]
          exact wpAny_pure ⟨rfl, rfl, j + 1, hl, lt, by rw [Bool.true_and]; exact hr⟩
  · obtain ⟨rfl, rfl, i, hl, hi, ag⟩ := hI
    have hi2 : i = e1.size := by
      refine Nat.le_antisymm hi (Nat.le_of_not_lt fun h => ?_)
      rw [show e1.size - i = (e1.size - (i + 1)) + 1 by omega, List.range'_succ] at hl
      cases hl
    rw [hi2, z1, List.drop_length] at ag
    cases ag
    exact wpAny_pure q'
theorem eq_heap {a b : Addr} {xs ys : List (κ × Addr × Value)} {g : Bool} {Q : Value → Shared → Prop} (na : (a == sysModules) = false) (nb : (b == sysModules) = false) (hr : knd.room A.in1) (hu : A.units < cLine)
    (da : s.heap.DictOfH knd a xs) (db : s.heap.DictOfH knd b ys) (ag : xs.length = ys.length → Agree A.in1 s ys xs g) (q : Q (.bool (xs.length == ys.length && g)) s) : wpAny (model prog w) A (compareOp .Eq (.ref a) (.ref b)) Q E s := by
  have ta := da.typeIs
  have tb := db.typeIs
  refine wpAny_richCompare_same_room (op := .Eq) ta tb PySem.F.slot_dict_eq (wpAny_call_entry PySem.F.slot_dict_eq ta PySem.F.entry_dict_eq ?_ (PySem.F.args_dict_eq_2 _ _)) hu
  show wpAny _ _ (Builtin.Dict.dictSlotArgs "__eq__" ⟨[.ref a, .ref b], []⟩ >>= fun p => _) _ _ s
  unfold Builtin.Dict.dictSlotArgs
  refine wpAny_bind (wpAny_bind (wpAny_notOrdered_dict ta ?_))
  show wpAny _ A.in1 (pure ((.ref a : Value), (.ref b : Value))) _ E s
  refine wpAny_pure (wpAny_bind ?_)
  refine wpAny_isInstance (T := "dict") tb PySem.F.sub_dict_dict ?_
  simp only [Bool.not_true, Bool.false_eq_true, if_false]
  refine wpAny_bind (wpAny_pure (wpAny_bind (wpAny_pure (wpAny_bind (same_heap na nb hr da db ag (wpAny_pure ⟨_, rfl, (fun x => by cases x), ?_⟩))))))
  simpa using q
end
/-! ### over the layer -/
/-- of two dicts with tuples for keys: whether each worth on the left is equal to the right one's, as data -/
inductive AgV (K : PySem.W.Frag) (H : Hp) (ls : List (List Key × V)) : List (List Key × V) → Bool → Prop
  | done : AgV K H ls [] true
  | lack {x : List Key × V} {r : List (List Key × V)} : valV ls x.1 = none → AgV K H ls (x :: r) false
  | meet {x : List Key × V} {r : List (List Key × V)} {v : V} {d e : PyData} {b : Bool} : valV ls x.1 = some v → Dp K H x.2 d → Dp K H v e → SeqAt.shaped d = true → SeqAt.shaped e = true → AgV K H ls r b → AgV K H ls (x :: r) (PyData.eqv d e && b)
def rEqDT (K : PySem.W.Frag) : R2 := fun x y H Q => ∃ (a b : Addr) (ks ls : List (List Key × V)) (g : Bool), x = .ref a ∧ y = .ref b ∧ H a = some (.dT ks) ∧ H b = some (.dT ls) ∧ AgV K H ls ks g ∧ Q (.bl (ks.length == ls.length && g)) H
section
variable {X : Cx}
theorem agree_of {pins : List (Addr × Obj)} {σ : L2.St} {H : Hp} {s : Shared} {ls : List (List Key × V)} {ys : List (List Key × Addr × Value)} (I : Inv X pins σ H s) (hu : X.A.in1.units + 64 < cLine) (rl : KT H ls ys) :
    ∀ {ks : List (List Key × V)} {xs : List (List Key × Addr × Value)} {g : Bool}, AgV X.K H ls ks g → KT H ks xs → Agree X.A.in1 s ys xs g
  | _, _, _, .done, r => by
    cases r
    exact .done
  | _, _, _, .lack h, .cons hx t => by
    refine .lack ?_
    have z := RelO.none_of (by rw [← h]; exact rl.val _)
    rw [← hx.1]
    exact Option.map_eq_none_iff.mp z
  | _, _, _, .meet h hd he sd se hr, .cons hx t => by
    obtain ⟨w', hw, rw'⟩ := RelO.some_of (by rw [← h]; exact rl.val _)
    obtain ⟨p, hp, hp2⟩ := Option.map_eq_some_iff.mp hw
    obtain ⟨as, r1⟩ := Dp.reads I _ _ _ hd hx.2.2
    obtain ⟨bs, r2⟩ := Dp.reads I _ _ _ he rw'
    refine .meet (p := p) (by rw [← hx.1]; exact hp) ?_ (agree_of I hu rl hr t)
    rw [hp2]
    exact W.keq_at r1 r2 sd se hu
theorem op_eq_dT (hu : X.A.units + 66 < cLine) : OpR X (compareOp .Eq) (rEqDT X.K) := by
  intro pins s σ H x y v u Q I rx ry h
  obtain ⟨a, b, ks, ls, g, rfl, rfl, ea, eb, ag, q⟩ := h
  obtain rfl : v = Value.ref a := rx
  obtain rfl : u = Value.ref b := ry
  obtain ⟨_, na, xs, ra, da⟩ := dt_of I.hok ea
  obtain ⟨_, nb, ys, rb, db⟩ := dt_of I.hok eb
  have hr : (tupleKind (mixKind X.prog X.w)).room X.A.in1 := show X.A.units + 1 < cLine by omega
  refine eq_heap na nb hr (by omega) da db (fun _ => agree_of I (show X.A.units + 1 + 64 < cLine by omega) rb ag ra) (fin_bl I q ?_)
  rw [Paired.length ra, Paired.length rb]
end
end Rw
set_option Elab.async false
set_option linter.all false
set_option maxRecDepth 100000
set_option maxHeartbeats 4000000
namespace Rw
open PySem PySem.Spec PyProof.Rows L2
/-! ### one clause of a comprehension, its turn -/
def turnOf (p : Pos) (t : Expr) (ifs : List Expr) (it : Value) (env : Env) (X : Sem PySem.Fin → Sem PySem.Fin) (L : Code) : Sem PySem.Fin := do
  standAt p
  match ← pyNext it with
  | none => pure (.done .next)
  | some v =>
    letOwnedTupleGo t it v
    assign t env v
    let mut ok := true
    for c in ifs do
      if ok then ok ← isTrue c env (eval c env)
    if ok then X (again L) else again L
def dputT (kx vx : Expr) (D : Addr) (env : Env) : Sem Unit := do
  let kv ← eval kx env
  let vv ← holding [kv] (eval vx env)
  standAt { kx.pos with endLine := vx.pos.endLine, endCol := vx.pos.endCol }
  holding [kv, vv] (dictSet D kv vv)
def putK' (kx vx : Expr) (D : Addr) (env : Env) (k : Sem PySem.Fin) : Sem PySem.Fin := do
  dputT kx vx D env
  k
theorem turn_d1 (kx vx t i : Expr) (ifs : List Expr) (scope : Scope) (pos : Pos) (it : Value) (D : Addr) (env : Env) :
    compTurn (.DictComp kx vx [⟨t, i, ifs, 0⟩] scope pos) 0 it (.ref D) env = turnOf i.pos t ifs it env (putK' kx vx D env) (.compLoop (.DictComp kx vx [⟨t, i, ifs, 0⟩] scope pos) 0 it (.ref D) env) := by rfl
theorem turn_d2i (kx vx t0 i0 t1 i1 : Expr) (ifs0 ifs1 : List Expr) (scope : Scope) (pos : Pos) (it : Value) (D : Addr) (env : Env) :
    compTurn (.DictComp kx vx [⟨t0, i0, ifs0, 0⟩, ⟨t1, i1, ifs1, 0⟩] scope pos) 1 it (.ref D) env = turnOf i1.pos t1 ifs1 it env (putK' kx vx D env) (.compLoop (.DictComp kx vx [⟨t0, i0, ifs0, 0⟩, ⟨t1, i1, ifs1, 0⟩] scope pos) 1 it (.ref D) env) := by rfl
def inner (e i1 : Expr) (acc : Value) (env : Env) (k : Sem PySem.Fin) : Sem PySem.Fin := do
  let x ← eval i1 env
  standAt i1.pos
  let x ← foldedSetIterable i1 env x
  let _ ← runOwn (.compStart e 1 (← holding [x] (pyIter x)) acc env) env
  k
theorem turn_d2o (kx vx t0 i0 t1 i1 : Expr) (ifs0 ifs1 : List Expr) (scope : Scope) (pos : Pos) (it : Value) (D : Addr) (env : Env) :
    compTurn (.DictComp kx vx [⟨t0, i0, ifs0, 0⟩, ⟨t1, i1, ifs1, 0⟩] scope pos) 0 it (.ref D) env = turnOf i0.pos t0 ifs0 it env (inner (.DictComp kx vx [⟨t0, i0, ifs0, 0⟩, ⟨t1, i1, ifs1, 0⟩] scope pos) i1 (.ref D) env)
      (.compLoop (.DictComp kx vx [⟨t0, i0, ifs0, 0⟩, ⟨t1, i1, ifs1, 0⟩] scope pos) 0 it (.ref D) env) := by rfl
/-- the deed of a turn, in a block's context -/
abbrev TB := L2.St → Hp → (Hp → Prop) → Prop
structure PB (Y : Cx) (vs : List Nat) (m : Sem PySem.Fin → Sem PySem.Fin) (t : TB) : Prop where
  run : ∀ (pins : List (Addr × Obj)) (s : Shared) (σ : L2.St) (H : Hp) (Q : Hp → Prop) (k : Sem PySem.Fin) (Z : PySem.Fin → Shared → Prop), Inv Y pins σ H s → t σ H Q →
    (∀ s' σ' H', Inv Y pins σ' H' s' → wipe σ' vs = wipe σ vs → Q H' → wpAny (model Y.prog Y.w) Y.A k Z (fun _ _ => False) s') → wpAny (model Y.prog Y.w) Y.A (m k) Z (fun _ _ => False) s
/-- turns by what holds between them -/
def tTurns (J : It) (g : TG) (tt : TT) (tb : TB) (vs : List Nat) (σ : L2.St) (W : Nat → Nat → Hp → Prop) (Dn : Hp → Prop) : Prop :=
  ∀ i m H, W i m H → (J.stop i H ∧ Dn H) ∨ (J.go i H ∧ ∃ Nx : Hp → Prop, (∀ H', Nx H' → ∃ m', m' < m ∧ W (i + 1) m' H') ∧
    ∀ x H', J.yld i H x H' → g x (wipe σ vs) H' fun σ2 H2 => wipe σ2 vs = wipe σ vs ∧ tt σ2 H2 fun b H3 => if b = true then tb σ2 H3 Nx else Nx H3)
section
variable {Y : Cx} {pins : List (Addr × Obj)} {σ : L2.St} {H : Hp} {s : Shared}
theorem turns_ok (hc : Y.calm = true) (hE : Y.xe = fun _ _ => False) {fp : List Addr} {it : Addr} {tn : Nat → Heap → Prop} {J : It} {t : Expr} {ifs : List Expr} {g : TG} {tt : TT} {tb : TB} {vs : List Nat} {e : Expr} {k : Nat} {acc : Value} {p : Pos}
    {m : Sem PySem.Fin → Sem PySem.Fin} {W : Nat → Nat → Hp → Prop} {Dn : Hp → Prop} {R : Result → Shared → Prop} {m0 : Nat}
    (T : Turn Y.prog Y.w Y.K t J fp it tn) (pg : PG Y t g) (pt : PTs Y ifs tt) (pb : PB Y vs m tb)
    (eq : compTurn e k (.ref it) acc Y.env = turnOf p t ifs (.ref it) Y.env m (.compLoop e k (.ref it) acc Y.env))
    (hden : (model Y.prog Y.w).den (.compLoop e k (.ref it) acc Y.env) = (compTurn e k (.ref it) acc Y.env).onRaise (fun x => do { noteFrame x Y.env; theTreesLotGoes x })) (hA : Y.A.under (.compLoop e k (.ref it) acc Y.env) = Y.A)
    (hf : ∀ H', (∀ b ∈ fp, H' b = none) → ∀ b ∈ fp, FpOk Y pins H' b) (tr : tTurns J g tt tb vs σ W Dn) (I : Inv Y pins (wipe σ vs) H s) (st : tn 0 s.heap) (hn : ∀ b ∈ fp, H b = none) (w0 : W 0 m0 H)
    (hR : ∀ s' H', Inv Y pins (wipe σ vs) H' s' → Dn H' → R (.ok .next) s') : codeAny (model Y.prog Y.w) Y.A (.compLoop e k (.ref it) acc Y.env) R s := by
  refine codeAny_loop rfl (fun n s' => ∃ i H', Inv Y pins (wipe σ vs) H' s' ∧ tn i s'.heap ∧ (∀ b ∈ fp, H' b = none) ∧ W i n H') (fun n s1 hI => ?_) m0 ⟨0, H, I, st, hn, w0⟩
  obtain ⟨i, H1, I1, st1, n1, w1⟩ := hI
  rw [hden, hA]
  refine wpAny_noted ?_
  rw [eq]
  unfold turnOf
  refine wpAny_bind (wpAny_standAt (wpAny_bind ?_))
  rcases tr i n H1 w1 with ⟨stop, dn⟩ | ⟨go, Nx, hNx, step⟩
  · refine thnF (T.done Y rfl rfl rfl hc i pins s1 _ H1 (fun _ _ => False) I1 (hf H1 n1) st1 stop) fun r s2 ⟨hr, I2⟩ => ?_
    subst hr
    exact wpAny_pure (hR s2 H1 I2 dn)
  · refine thnF (T.item Y rfl rfl rfl hc i pins s1 _ H1 (fun _ _ => False) I1 (hf H1 n1) st1 go) fun r s2 ⟨u, hr, h2⟩ => ?_
    subst hr
    refine wpAny_bind (thnF h2 fun _ s3 ⟨x, H3, I3, r3, y3, st3, n3⟩ => ?_)
    have I3' := I3.pinned (hf H3 n3) (T.obj _ _ st3)
    have pg1 := pg.run _ s3 _ H3 x u _ I3' r3 (step x H3 y3)
    rw [hE] at pg1
    refine wpAny_bind (thnF pg1 fun _ s4 ⟨σ4, H4, I4, hw4, q4⟩ => ?_)
    have pt1 := pt.run _ s4 σ4 H4 _ I4 q4
    rw [hE] at pt1
    have fin : ∀ {s' : Shared} {σ' : L2.St} {H' : Hp}, Inv Y (pins ++ pinsAt fp s3.heap) σ' H' s' → wipe σ' vs = wipe σ vs → Nx H' → ∃ m, m < n ∧ ∃ i H', Inv Y pins (wipe σ vs) H' s' ∧ tn i s'.heap ∧ (∀ b ∈ fp, H' b = none) ∧ W i m H' := fun {s' σ' H'} I' hw nx => by
      obtain ⟨m', hm, w'⟩ := hNx H' nx
      have stays : ∀ b ∈ fp, ∀ o, s3.heap.get? b = some o → s'.heap.get? b = some o ∧ H' b = none := fun b hb o ho =>
        have z := I'.pin (b, o) (List.mem_append_right _ (List.mem_append_right _ (mem_pinsAt hb ho)))
        ⟨z.1, z.2.1⟩
      refine ⟨m', hm, i + 1, H', I'.unpinned.weak (by rw [← hw, wipe_length]) (fun j v ej => ?_), T.keep _ _ _ st3 fun b hb o ho => (stays b hb o ho).1, fun b hb => ?_, w'⟩
      · rw [← hw] at ej
        exact (wipe_some ej).1
      · obtain ⟨o, ho, _⟩ := T.obj _ _ st3 b hb
        exact (stays b hb o ho).2
    refine wpAny_bind (thnF pt1 fun b s5 ⟨H5, I5, q5⟩ => ?_)
    cases b with
    | false =>
      simp only [Bool.false_eq_true, if_false] at q5 ⊢
      exact wpAny_pure ⟨rfl, fin I5 hw4 q5⟩
    | true =>
      simp only [if_true] at q5 ⊢
      refine wpAny_mono (pb.run _ s5 σ4 H5 _ _ _ I5 q5 fun s6 σ6 H6 I6 w6 q6 => wpAny_pure ⟨rfl, fin I6 (w6.trans hw4) q6⟩) (fun _ _ z => z) fun _ _ z => False.elim z
/-- D[key] = worth, the key a text or a number, or a tuple of such -/
def tbPut (D : Addr) (tk tv : TE) : TB := fun σ H Q => tk σ H fun y H1 => tv σ H1 fun z H2 => ∃ H3, DPut H2 D y z H3 ∧ Q H3
theorem pb_put (hE : Y.xe = fun _ _ => False) (hu : Y.A.units < cLine) {kx vx : Expr} {D : Addr} {tk tv : TE} {vs : List Nat} (hk : PE Y kx tk) (hv : PE Y vx tv) : PB Y vs (putK' kx vx D Y.env) (tbPut D tk tv) := by
  refine ⟨fun pins s σ H Q k Z I h hk' => ?_⟩
  unfold putK' dputT
  have h1 := hk.run pins s σ H _ I h
  rw [hE] at h1
  refine wpAny_bind (wpAny_bind (thnF h1 fun u s1 ⟨y, H1, I1, r1, q1⟩ => ?_))
  have h2 := hv.run pins s1 σ H1 _ I1 q1
  rw [hE] at h2
  refine wpAny_bind (wpAny_holding (thnF h2 fun w s2 ⟨z, H2, I2, r2, H3, q3, q⟩ => ?_))
  refine wpAny_bind (wpAny_standAt (wpAny_holding ?_))
  rcases q3 with ⟨kvs, kk, hD, ey, hl, e3⟩ | ⟨kvs, kk, b, hD, ey, hb, hl, e3⟩
  · subst ey e3
    exact d_dictSet I2 hD hl r1 r2 fun s3 I3 => hk' s3 σ _ I3 rfl q
  · subst ey e3
    cases (show u = Value.ref b from r1)
    obtain ⟨z1, hd, xs, rel, dd⟩ := dt_of I2.hok hD
    have hz : xs.length ≤ sizeLine := by rw [← Paired.length rel]; exact z1
    have hl2 : (putK kvs kk z).length ≤ sizeLine := by have := length_putK kvs kk z; omega
    refine wpAny_dictSet_heap (hsz := hz) (show Y.A.units < cLine from hu) (key_of I2.hok hb) dd fun h' dd' hs => hk' _ σ _ ?_ rfl q
    obtain ⟨o, es, ep, ho, j2, j3, j4, _, j5⟩ := dd'
    refine d_write I2 (by rw [hD]; exact True.intro) hs ⟨o, ho⟩ ⟨hl2, hd, _, (rel.put kk hb r2).keeps fun c ys ec => ?_, o, es, ep, ho, j2, j3, j4, j5⟩
    rw [upd_ne (ne_of ec hD (fun z => nomatch z))]
    exact ec
/-- the clauses behind, from their own source -/
def tbIn (wi : TI) (g : TG) (tt : TT) (tb : TB) (vs : List Nat) : TB := fun σ H Q => wi σ H fun J H1 => ∃ W : Nat → Nat → Hp → Prop, (∃ m, W 0 m H1) ∧ tTurns J g tt tb vs σ W Q
theorem start1_ok {A : Around} {R : Result → Shared → Prop} {kx vx t0 i0 t1 i1 : Expr} {ifs0 ifs1 : List Expr} {scope : Scope} {pos : Pos} {it acc : Value} {env : Env} {prog : Program} {w : World}
    (h0 : codeAny (model prog w) A (.compLoop (.DictComp kx vx [⟨t0, i0, ifs0, 0⟩, ⟨t1, i1, ifs1, 0⟩] scope pos) 1 it acc env) R s)
    (h : wpAny (model prog w) A (pyIter it) (fun it' s' => codeAny (model prog w) A (.compLoop (.DictComp kx vx [⟨t0, i0, ifs0, 0⟩, ⟨t1, i1, ifs1, 0⟩] scope pos) 1 it' acc env) R s') (fun _ _ => False) s) :
    codeAny (model prog w) A (.compStart (.DictComp kx vx [⟨t0, i0, ifs0, 0⟩, ⟨t1, i1, ifs1, 0⟩] scope pos) 1 it acc env) R s := by
  refine codeAny_of_tree ?_
  have e : (model prog w).den (.compStart (.DictComp kx vx [⟨t0, i0, ifs0, 0⟩, ⟨t1, i1, ifs1, 0⟩] scope pos) 1 it acc env) =
      (compStart (.DictComp kx vx [⟨t0, i0, ifs0, 0⟩, ⟨t1, i1, ifs1, 0⟩] scope pos) 1 it acc env).onRaise (fun x => do noteFrame x env; standAt theWindowsPlace) := rfl
  rw [e]
  refine wpAny_notedAt ?_
  unfold compStart
  refine wpAny_bind (wpAny_askSetting (wpAny_ite ?_))
  split
  · exact wpAny_pure ⟨rfl, h0⟩
  · refine wpAny_bind (wpAny_rule ?_)
    refine wpAny_bind (wpAny_standAt (wpAny_bind (thnF h fun it' s' h' => ?_)))
    exact wpAny_pure ⟨rfl, h'⟩
end
end Rw
set_option Elab.async false
set_option linter.all false
set_option maxRecDepth 100000
set_option maxHeartbeats 4000000
namespace Rw
open PySem PySem.Spec PyProof.Rows L2
section
variable {Y : Cx} {pins : List (Addr × Obj)} {σ : L2.St} {H : Hp} {s : Shared}
theorem wipe_in {σ : L2.St} {n : Nat} : ∀ {vs : List Nat}, n ∈ vs → (wipe σ vs)[n]? = if n < σ.length then some none else none
  | v :: vs, h => by
    unfold wipe
    by_cases e : v = n
    · subst e
      by_cases hl : v < σ.length
      · rw [List.getElem?_set_self (by rw [wipe_length]; exact hl), if_pos hl]
      · rw [List.getElem?_eq_none (by rw [List.length_set, wipe_length]; omega), if_neg hl]
    · rw [List.getElem?_set_ne e]
      exact wipe_in ((List.mem_cons.mp h).resolve_left fun z => e z.symm)
theorem wipe_sub {σ : L2.St} {vs us : List Nat} (h : ∀ i ∈ us, i ∈ vs) : wipe (wipe σ us) vs = wipe σ vs := by
  apply List.ext_getElem?
  intro n
  by_cases hn : n ∈ vs
  · rw [wipe_in hn, wipe_in hn, wipe_length]
  · rw [wipe_out hn, wipe_out hn, wipe_out fun z => hn (h n z)]
theorem pb_inner (hc : Y.calm = true) (hE : Y.xe = fun _ _ => False) {kx vx t0 i0 t1 i1 : Expr} {ifs0 ifs1 : List Expr} {scope : Scope} {pos : Pos} {D : Addr} {wi : TI} {g : TG} {tt : TT} {tb : TB} {vs us : List Nat}
    (hi : PI Y t1 i1 wi) (hg : PG Y t1 g) (ht : PTs Y ifs1 tt) (hb : PB Y us (putK' kx vx D Y.env) tb) (hs : ∀ x, foldedSetIterable i1 Y.env x = pure x) (hv : ∀ i ∈ us, i ∈ vs) :
    PB Y vs (inner (.DictComp kx vx [⟨t0, i0, ifs0, 0⟩, ⟨t1, i1, ifs1, 0⟩] scope pos) i1 (.ref D) Y.env) (tbIn wi g tt tb us) := by
  refine ⟨fun pins s σ H Q k Z I h hk => ?_⟩
  unfold inner
  have h1 := hi.run pins s σ H _ I h
  rw [hE] at h1
  refine wpAny_bind (thnF h1 fun xv s1 h2 => wpAny_bind (wpAny_standAt (wpAny_bind (wpAny_of_eq (hs xv) (wpAny_bind (wpAny_holding (thnF h2 fun itv s2 h3 => ?_)))))))
  obtain ⟨it, fp, tn, J, H2, e, I2, T, st, f2, W, ⟨m0, w0⟩, tr⟩ := h3
  subst e
  have loop : codeAny (model Y.prog Y.w) Y.A (.compLoop (.DictComp kx vx [⟨t0, i0, ifs0, 0⟩, ⟨t1, i1, ifs1, 0⟩] scope pos) 1 (.ref it) (.ref D) Y.env)
      (fun r s' => match r with | .ok _ => ∃ H', Inv Y pins (wipe σ us) H' s' ∧ Q H' | .error _ => False) s2 :=
    turns_ok hc hE T hg ht hb (turn_d2i kx vx t0 i0 t1 i1 ifs0 ifs1 scope pos (.ref it) D Y.env) rfl rfl (fun H' n b hb => ⟨n b hb, (f2 b hb).2⟩) tr
      (I2.weak (wipe_length _ _) fun j v e => (wipe_some e).1) st (fun b hb => (f2 b hb).1) w0 fun s' H' I' q => ⟨H', I', q⟩
  refine wpAny_bind (wpAny_runOwn ?_)
  rw [Around.mark_none]
  refine codeAny_mono (start1_ok loop (T.self Y.A 0 _ _ _ st loop)) fun r s' hr => ?_
  cases r with
  | ok f =>
    obtain ⟨H', I', q⟩ := hr
    exact hk s' _ H' I' (wipe_sub hv) q
  | error e => exact hr.elim
end
section
variable {X : Cx}
/-- the new dict is tracked as one of this kind -/
def NewD (o : HO) : Prop := o = .dK [] ∨ o = .dT []
theorem NewD.ok {o : HO} (h : NewD o) {P : Program} {w : World} {H : Hp} (hp : Heap) (hb : sysModules < hp.objs.size) : ObjOk P w H (hp.push { cls := .type "dict", data := .dict #[] }) hp.objs.size o := by
  rcases h with rfl | rfl
  · exact dk_empty hp hb
  · exact dt_empty hp hb
/-- a dict's comprehension of any clauses, the deed of its first clause's turn tb -/
def tDcO (o : HO) (wi : TI) (g : TG) (tt : TT) (tb : Addr → TB) (vs : List Nat) : TE := fun σ H Q => wi σ H fun J H1 => ∀ D, H1 D = none → ∃ W : Nat → Nat → Hp → Prop, (∃ m, W 0 m (upd H1 D o)) ∧ tTurns J g tt (tb D) vs σ W (Q (.ref D))
theorem dco_core {o : HO} (ho : NewD o) {pins : List (Addr × Obj)} {s : Shared} {σ : L2.St} {H : Hp} {Q : VK} {kx vx tg iter : Expr} {ifs : List Expr} {more : List Comprehension} {scope : Scope} {own : List (Str × Nat)} {pos pos' : Pos} {use : Option (Value → Sem Unit)} {Qf : Value → Shared → Prop} {wi : TI} {g : TG} {tt : TT} {tb : Addr → TB}
    {m : Addr → Env → Sem PySem.Fin → Sem PySem.Fin}
    (hc : X.calm = true) (hN : X.N.Nodup) (I : Inv X pins σ H s) (hi : PI X tg iter wi) (ok : BlkOk X.N X.env.scope scope own)
    (hg : ∀ (s : Shared) (H : Hp) (C : Addr) (cl : List (Str × Addr)) (fp : List Addr), PG (X.blk s H scope (compEnvC scope cl C X.env) fp) tg g)
    (ht : ∀ (s : Shared) (H : Hp) (C : Addr) (cl : List (Str × Addr)) (fp : List Addr), PTs (X.blk s H scope (compEnvC scope cl C X.env) fp) ifs tt)
    (hb : ∀ (s : Shared) (H : Hp) (C : Addr) (cl : List (Str × Addr)) (fp : List Addr) (D : Addr), PB (X.blk s H scope (compEnvC scope cl C X.env) fp) (own.map (·.2)) (m D (compEnvC scope cl C X.env)) (tb D))
    (eq : ∀ it D env, compTurn (.DictComp kx vx (⟨tg, iter, ifs, 0⟩ :: more) scope pos) 0 (.ref it) (.ref D) env = turnOf iter.pos tg ifs (.ref it) env (m D env) (.compLoop (.DictComp kx vx (⟨tg, iter, ifs, 0⟩ :: more) scope pos) 0 (.ref it) (.ref D) env))
    (hs : ∀ x, foldedSetIterable iter X.env x = pure x) (h : tDcO o wi g tt tb (own.map (·.2)) σ H Q)
    (fin : ∀ D C s' m H', Inv X pins σ H' s' → Q (.ref D) H' → s'.heap.Ns C m → FpOk X pins H' C → compPost (model X.prog X.w) X.A X.xe use Qf (.ref D) C (.ok .next) s') :
    wpAny (model X.prog X.w) X.A (comprehension (.DictComp kx vx (⟨tg, iter, ifs, 0⟩ :: more) scope pos) scope X.env pos' newDict false (eval iter X.env) use) Qf X.xe s := by
  have hfree : ∀ y ∈ scope.names, y.2 = .free → ∃ c, X.env.cells.lookup y.1 = some c := fun y hy e =>
    (ok.free y hy e).elim (fun k => I.ok.has _ (.inl k)) fun k => I.ok.has _ (.inr k)
  refine wpAny_comprehension_free (use := use) rfl hs (closure_ok hfree) ok.kind (fun y hy e => by rw [ok.uniq y hy, e])
    (thn (hi.run pins s σ H _ I h) fun xv s1 hx => thn hx fun itv s2 h2 => ?_)
  obtain ⟨it, fp, tn, J, H2, e, I2, T, st, f2, q⟩ := h2
  subst e
  refine wpAny_newObj_type (newEnv_comp ?_)
  generalize hD : s2.heap.objs.size = D
  have hDn : H2 D = none := I2.hok.fresh (Nat.le_of_eq hD)
  obtain ⟨W, ⟨m0, w0⟩, tr⟩ := q D hDn
  generalize hs3 : ({ s2 with heap := s2.heap.push { cls := .type "dict", data := .dict #[] } } : Shared) = s3
  have h3 : s3.heap = s2.heap.push { cls := .type "dict", data := .dict #[] } := by rw [← hs3]
  have I3 : Inv X pins σ (upd H2 D o) s3 := by
    rw [← hs3]
    refine I2.laid (t' := s2.toks) (fun b u eb => Heap.get?_push_of_some _ eb) (Nat.le_of_eq hD) ?_
    rw [← hD]
    exact ho.ok s2.heap I2.big
  have f3 : ∀ b ∈ fp, FpOk X pins (upd H2 D o) b ∧ b < s3.heap.objs.size := fun b hb => by
    obtain ⟨u, eb, _⟩ := T.obj _ _ st b hb
    have lt := Heap.lt_size eb
    refine ⟨⟨?_, (f2 b hb).2⟩, by rw [h3, Heap.size_push]; exact Nat.lt_succ_of_lt lt⟩
    rw [upd_ne (by rw [← hD]; exact Nat.ne_of_lt lt)]
    exact (f2 b hb).1
  have st3 : tn 0 s3.heap := T.keep _ _ _ st fun b _ u eb => by rw [h3]; exact Heap.get?_push_of_some _ eb
  have I4 := block_start I3 ok hN f3
  have pg := hg s3 (upd H2 D o) s3.heap.objs.size (cellsFrom (s3.heap.objs.size + 1) scope.names (cloFrom X.env.cells scope.names [])) fp
  have pt := ht s3 (upd H2 D o) s3.heap.objs.size (cellsFrom (s3.heap.objs.size + 1) scope.names (cloFrom X.env.cells scope.names [])) fp
  have pb := hb s3 (upd H2 D o) s3.heap.objs.size (cellsFrom (s3.heap.objs.size + 1) scope.names (cloFrom X.env.cells scope.names [])) fp D
  show codeAny _ _ (.compStart (.DictComp kx vx (⟨tg, iter, ifs, 0⟩ :: more) scope pos) 0 (.ref it) (.ref D) (compEnvC scope (cellsFrom (s3.heap.objs.size + 1) scope.names (cloFrom X.env.cells scope.names [])) s3.heap.objs.size X.env)) (compPost (model X.prog X.w) X.A X.xe use Qf (.ref D) s3.heap.objs.size) { s3 with heap := pushCells (s3.heap.push { cls := .type "dict", data := .dict #[] }) scope.names }
  generalize hce : compEnvC scope (cellsFrom (s3.heap.objs.size + 1) scope.names (cloFrom X.env.cells scope.names [])) s3.heap.objs.size X.env = ce at I4 pg pt pb ⊢
  have cL : ce.locals = s3.heap.objs.size := by subst hce; rfl
  have n3 : ∀ b ∈ fp, (upd H2 D o) b = none := fun b hb => (f3 b hb).1.1
  generalize upd H2 D o = H3 at I3 I4 pg pt pb w0 n3 f3
  generalize hs4 : ({ s3 with heap := pushCells (s3.heap.push { cls := .type "dict", data := .dict #[] }) scope.names } : Shared) = s4 at I4 ⊢
  have st4 : tn 0 s4.heap := T.keep _ _ _ st3 fun b _ u eb => by rw [← hs4]; exact pushCells_keeps _ _ _ _ (Heap.get?_push_of_some _ eb)
  have loop : codeAny (model X.prog X.w) X.A (.compLoop (.DictComp kx vx (⟨tg, iter, ifs, 0⟩ :: more) scope pos) 0 (.ref it) (.ref D) ce) (compPost (model X.prog X.w) X.A X.xe use Qf (.ref D) s3.heap.objs.size) s4 := by
    refine turns_ok (Y := X.blk s3 H3 scope ce fp) (W := W) (Dn := Q (.ref D)) hc rfl T pg pt pb (eq it D ce) rfl rfl
      (fun H' n b hb => ⟨n b hb, (I4.ok.exf b hb).1, I4.ok.exfs b hb, .inl hb, fun x c e => (I4.ok.exf b hb).2 x c e, fun p hp => absurd (show p ∈ ([] : List (Addr × Obj)) ++ [] from hp) (by simp)⟩) tr I4 st4 n3 w0 fun s6 H6 I6 qq => ?_
    have I7 : Inv X pins σ H6 s6 := I3.call' (ch := fp) I6.os I6.base I6.hok I6.bare fun b hb => ⟨(f3 b hb).1.2.2.2.1, (f3 b hb).1.2.1, (f3 b hb).1.2.2.2.2.1, (f3 b hb).1.2.2.2.2.2⟩
    have nC : H6 s3.heap.objs.size = none := by
      have z : H6 ce.locals = none := I6.free
      rwa [cL] at z
    obtain ⟨mm, hn, _⟩ := I6.loc
    have hn : s6.heap.Ns ce.locals mm := hn
    rw [cL] at hn
    exact fin D s3.heap.objs.size s6 mm H6 I7 qq hn (I3.fpOk (Nat.le_refl _) nC)
  exact codeAny_compStart_dict loop (T.self X.A 0 _ _ _ st4 loop)
theorem dco_val {pins : List (Addr × Obj)} {σ : L2.St} {Q : VK} {D C : Addr} {s' : Shared} {m : Str → Option Value} {H' : Hp} (I' : Inv X pins σ H' s') (q : Q (.ref D) H') (hn : s'.heap.Ns C m) (f : FpOk X pins H' C) :
    compPost (model X.prog X.w) X.A X.xe none (EP X pins σ Q) (.ref D) C (.ok .next) s' := by
  obtain ⟨k0, k1, k2, k3, k4, k5⟩ := f
  exact ⟨m, hn, fun h'' sb => ⟨.ref D, H', I'.turned (t' := s'.toks) (fun b u nb eb => (sb.2 b nb).trans eb) k0 k1 k3 k4 k5, rfl, q⟩⟩
/-- {k: v for t in i if ..} -/
theorem pe_dcO {o : HO} (ho : NewD o) {kx vx tg iter : Expr} {ifs : List Expr} {scope : Scope} {own : List (Str × Nat)} {pos : Pos} {wi : TI} {g : TG} {tt : TT} {tk tv : TE} (hc : X.calm = true) (hu : X.A.units < cLine) (hN : X.N.Nodup) (hi : PI X tg iter wi) (ok : BlkOk X.N X.env.scope scope own)
    (hg : ∀ (s : Shared) (H : Hp) (C : Addr) (cl : List (Str × Addr)) (fp : List Addr), PG (X.blk s H scope (compEnvC scope cl C X.env) fp) tg g)
    (ht : ∀ (s : Shared) (H : Hp) (C : Addr) (cl : List (Str × Addr)) (fp : List Addr), PTs (X.blk s H scope (compEnvC scope cl C X.env) fp) ifs tt)
    (hk : ∀ (s : Shared) (H : Hp) (C : Addr) (cl : List (Str × Addr)) (fp : List Addr), PE (X.blk s H scope (compEnvC scope cl C X.env) fp) kx tk)
    (hv : ∀ (s : Shared) (H : Hp) (C : Addr) (cl : List (Str × Addr)) (fp : List Addr), PE (X.blk s H scope (compEnvC scope cl C X.env) fp) vx tv) (hs : ∀ x, foldedSetIterable iter X.env x = pure x := by intro _; rfl) :
    PE X (.DictComp kx vx [⟨tg, iter, ifs, 0⟩] scope pos) (tDcO o wi g tt (fun D => tbPut D tk tv) (own.map (·.2))) :=
  ⟨fun pins s σ H Q I h => (arm_eval_DictComp ..) ▸ dco_core (m := fun D env => putK' kx vx D env) ho hc hN I hi ok hg ht (fun s H C cl fp D => pb_put (Y := X.blk s H scope (compEnvC scope cl C X.env) fp) rfl hu (hk s H C cl fp) (hv s H C cl fp)) (fun it D env => turn_d1 kx vx tg iter ifs scope pos (.ref it) D env) hs h fun D C s' m H' I' q hn f => dco_val I' q hn f⟩
/-- {k: v for t in i if .. for t1 in i1 if ..} -/
theorem pe_dcO2 {o : HO} (ho : NewD o) {kx vx tg iter tg1 iter1 : Expr} {ifs ifs1 : List Expr} {scope : Scope} {own : List (Str × Nat)} {us : List Nat} {pos : Pos} {wi wi1 : TI} {g g1 : TG} {tt tt1 : TT} {tk tv : TE} (hc : X.calm = true) (hu : X.A.units < cLine) (hN : X.N.Nodup) (hi : PI X tg iter wi) (ok : BlkOk X.N X.env.scope scope own) (hv1 : ∀ i ∈ us, i ∈ own.map (·.2))
    (hg : ∀ (s : Shared) (H : Hp) (C : Addr) (cl : List (Str × Addr)) (fp : List Addr), PG (X.blk s H scope (compEnvC scope cl C X.env) fp) tg g)
    (ht : ∀ (s : Shared) (H : Hp) (C : Addr) (cl : List (Str × Addr)) (fp : List Addr), PTs (X.blk s H scope (compEnvC scope cl C X.env) fp) ifs tt)
    (hi1 : ∀ (s : Shared) (H : Hp) (C : Addr) (cl : List (Str × Addr)) (fp : List Addr), PI (X.blk s H scope (compEnvC scope cl C X.env) fp) tg1 iter1 wi1)
    (hg1 : ∀ (s : Shared) (H : Hp) (C : Addr) (cl : List (Str × Addr)) (fp : List Addr), PG (X.blk s H scope (compEnvC scope cl C X.env) fp) tg1 g1)
    (ht1 : ∀ (s : Shared) (H : Hp) (C : Addr) (cl : List (Str × Addr)) (fp : List Addr), PTs (X.blk s H scope (compEnvC scope cl C X.env) fp) ifs1 tt1)
    (hk : ∀ (s : Shared) (H : Hp) (C : Addr) (cl : List (Str × Addr)) (fp : List Addr), PE (X.blk s H scope (compEnvC scope cl C X.env) fp) kx tk)
    (hv : ∀ (s : Shared) (H : Hp) (C : Addr) (cl : List (Str × Addr)) (fp : List Addr), PE (X.blk s H scope (compEnvC scope cl C X.env) fp) vx tv) (hs : ∀ x, foldedSetIterable iter X.env x = pure x := by intro _; rfl) (hs1 : ∀ env x, foldedSetIterable iter1 env x = pure x := by intro _ _; rfl) :
    PE X (.DictComp kx vx [⟨tg, iter, ifs, 0⟩, ⟨tg1, iter1, ifs1, 0⟩] scope pos) (tDcO o wi g tt (fun D => tbIn wi1 g1 tt1 (tbPut D tk tv) us) (own.map (·.2))) :=
  ⟨fun pins s σ H Q I h => (arm_eval_DictComp ..) ▸ dco_core (m := fun D env => inner (.DictComp kx vx [⟨tg, iter, ifs, 0⟩, ⟨tg1, iter1, ifs1, 0⟩] scope pos) iter1 (.ref D) env) ho hc hN I hi ok hg ht
    (fun s H C cl fp D => pb_inner (Y := X.blk s H scope (compEnvC scope cl C X.env) fp) hc rfl (hi1 s H C cl fp) (hg1 s H C cl fp) (ht1 s H C cl fp) (pb_put (Y := X.blk s H scope (compEnvC scope cl C X.env) fp) rfl hu (hk s H C cl fp) (hv s H C cl fp)) (fun x => hs1 _ x) hv1)
    (fun it D env => turn_d2o kx vx tg iter tg1 iter1 ifs ifs1 scope pos (.ref it) D env) hs h fun D C s' m H' I' q hn f => dco_val I' q hn f⟩
/-- name = {..} on one line, the name a local -/
theorem ps_setDcO {o : HO} (ho : NewD o) {i : Nat} {y : Str} {py : Pos} {kx vx tg iter : Expr} {ifs : List Expr} {scope : Scope} {own : List (Str × Nat)} {pos spos : Pos} {wi : TI} {g : TG} {tt : TT} {tk tv : TE} (hc : X.calm = true) (hu : X.A.units < cLine) (hN : X.N.Nodup) (hy : X.N[i]? = some y) (hyl : X.env.scope.names.lookup y = some .local)
    (hsw : swapsWith (.DictComp kx vx [⟨tg, iter, ifs, 0⟩] scope pos) (some (.Name y py)) spos.line X.env = pure true) (hi : PI X tg iter wi) (ok : BlkOk X.N X.env.scope scope own)
    (hg : ∀ (s : Shared) (H : Hp) (C : Addr) (cl : List (Str × Addr)) (fp : List Addr), PG (X.blk s H scope (compEnvC scope cl C X.env) fp) tg g)
    (ht : ∀ (s : Shared) (H : Hp) (C : Addr) (cl : List (Str × Addr)) (fp : List Addr), PTs (X.blk s H scope (compEnvC scope cl C X.env) fp) ifs tt)
    (hk : ∀ (s : Shared) (H : Hp) (C : Addr) (cl : List (Str × Addr)) (fp : List Addr), PE (X.blk s H scope (compEnvC scope cl C X.env) fp) kx tk)
    (hv : ∀ (s : Shared) (H : Hp) (C : Addr) (cl : List (Str × Addr)) (fp : List Addr), PE (X.blk s H scope (compEnvC scope cl C X.env) fp) vx tv) (hs : ∀ x, foldedSetIterable iter X.env x = pure x := by intro _; rfl) :
    PS X (.Assign [.Name y py] (.DictComp kx vx [⟨tg, iter, ifs, 0⟩] scope pos) spos) (tAsg (tDcO o wi g tt (fun D => tbPut D tk tv) (own.map (·.2))) (gName i)) := by
  refine ⟨fun pins s σ H D I h => ?_⟩
  have h : tDcO o wi g tt (fun D => tbPut D tk tv) (own.map (·.2)) σ H (fun x H1 => gName i x σ H1 D.nx) := h
  rw [exec_Assign_Name_used _ _ _ _ hsw]
  refine wpAny_bind (wpAny_standAt (wpAny_bind ?_))
  show wpAny _ X.A (do let _ ← comprehension (.DictComp kx vx [⟨tg, iter, ifs, 0⟩] scope pos) scope X.env (firstIterPos [⟨tg, iter, ifs, 0⟩] pos) newDict false (eval iter X.env) (some (assign (.Name y py) X.env))) _ _ s
  refine wpAny_bind (thn (dco_core (Qf := fun _ s' => SP X pins D .next s') (m := fun D env => putK' kx vx D env) ho hc hN I hi ok hg ht
    (fun s H C cl fp D => pb_put (Y := X.blk s H scope (compEnvC scope cl C X.env) fp) rfl hu (hk s H C cl fp) (hv s H C cl fp)) (fun it D env => turn_d1 kx vx tg iter ifs scope pos (.ref it) D env) hs h fun L C s' m H' I' q hn f => ?_) fun _ s' hq => wpAny_pure (wpAny_pure hq))
  show wpAny _ _ (assign (.Name y py) X.env (.ref L)) _ _ _
  refine wpAny_assign_Name (store_ok2 (v := V.ref L) I' hN hy (.inl hyl) rfl (fun s2 I2 ⟨a, sb, ha⟩ => ?_) (.inr hyl))
  obtain ⟨k0, k1, k2, k3, k4, k5⟩ := f
  have ne : C ≠ a := ha.elim (fun z => by rw [z]; exact k1) fun z e => k4 y a z e.symm
  exact ⟨m, hn.sameBut sb ne, fun h3 sb3 => ⟨_, H', I2.turned (t' := s2.toks) (fun b u nb eb => (sb3.2 b nb).trans eb) k0 k1 k3 k4 k5, q⟩⟩
theorem swd_true {kx vx : Expr} {gs : List Comprehension} {scope : Scope} {pos py : Pos} {y : Str} {l : Nat} {env : Env} (hk : env.scope.kind = .function) (hy : env.scope.names.lookup y = some .local) (hl : (py.line == pos.line) = true)
    (ha : (scope.names.any fun (n, k) => n == y && (k == .local || k == .cell)) = false) : swapsWith (.DictComp kx vx gs scope pos) (some (.Name y py)) l env = pure true := by
  have e1 : env.kindOf y = some .local := hy
  have e2 : env.blockKind = .function := by
    unfold Env.blockKind
    rw [hk]
    rfl
  unfold swapsWith
  simp only [e2, e1, ha, Expr.pos, hl]
  rfl
end
end Rw
set_option Elab.async false
set_option linter.all false
set_option maxRecDepth 100000
set_option maxHeartbeats 4000000
namespace Rw
open PySem PySem.Spec PyProof.Rows L2
namespace EnF
theorem no_len : typeLookup (.type "enumerate") "__len__" = pure none := by rw [typeLookup_type, builtinLookup_eq_fast]; kernel_rfl
theorem no_hint : typeLookup (.type "enumerate") "__length_hint__" = pure none := by rw [typeLookup_type, builtinLookup_eq_fast]; kernel_rfl
end EnF
theorem alive_ok {M : Model} {A : Around} {E : Value → Shared → Prop} {s : Shared} {a : Addr} {Q : Option Obj → Shared → Prop} (h : Q (s.heap.get? a) s) : wpAny M A (loadIfAlive a) Q E s := fun _ _ _ => h
/-- an enumerate whose last pair is still held -/
abbrev EnHeld (h : Heap) (e it : Addr) (i : Int) (T : Addr) (b : Bool) (x : Value) : Prop :=
  h.get? e = some { cls := .type "enumerate", dict := none, data := .fields #[rawInt T, .bool b, .ref it, rawInt i, .none, x], slots := #[] }
def EnSt (h : Heap) (e it : Addr) (i : Int) : Prop := (∃ old, IsEnum h e it i old) ∨ ∃ T b x ob, EnHeld h e it i T b x ∧ h.get? T = some ob ∧ T ≠ e
section
variable {prog : Program} {w : World} {A : Around} {E : Value → Shared → Prop} {s : Shared}
theorem held_next {e it l T : Addr} {b : Bool} {i : Nat} {items : Array Value} {x old : Value} {ob : Obj} {Q : Value → Shared → Prop}
    (he : EnHeld s.heap e it i T b old) (hT : s.heap.get? T = some ob) (hTe : T ≠ e) (hTi : T ≠ it) (hit : s.heap.IsListIter it l i) (hl : s.heap.IsList l items) (hx : items[i]? = some x) (hne : e ≠ it)
    (hQ : ∀ h' b', EnHeld h' e it ((i : Int) + 1) T b' old → h'.IsListIter it l (i + 1) → h'.get? s.heap.objs.size = some { cls := .type "tuple", data := .seq #[.int i s.toks, x] } → h'.objs.size = s.heap.objs.size + 1 →
      (∀ c o, c ≠ e → c ≠ it → s.heap.get? c = some o → h'.get? c = some o) → Q (.ref s.heap.objs.size) { s with heap := h', toks := s.toks + 1 }) :
    wpAny (model prog w) A (Builtin.«enumerate.__next__» ⟨[.ref e], []⟩) (fun fin s' => ∃ v, fin = .done (.ret v) ∧ Q v s') E s := by
  obtain ⟨hp, g, d, tk, os⟩ := s
  show wpAny _ _ (field (.ref e) 2 >>= _) _ _ _
  refine wpAny_bind (wpAny_field he rfl (x := .ref it) rfl ?_)
  refine wpAny_bind (wpAny_nextOf_list_item hit hl hx fun h1 it1 s1 => ?_)
  have s1 : Heap.SameBut it hp h1 := s1
  have e1 : EnHeld h1 e it i T b old := (s1.2 e hne).trans he
  show wpAny _ _ (field (.ref e) 3 >>= _) _ _ ⟨h1, g, d, tk, os⟩
  refine wpAny_bind (wpAny_field e1 rfl (x := rawInt i) rfl ?_)
  show wpAny _ _ (field (.ref e) 4 >>= _) _ _ ⟨h1, g, d, tk, os⟩
  refine wpAny_bind (wpAny_field e1 rfl (x := .none) rfl ?_)
  show wpAny _ _ (mkInt i >>= _) _ _ ⟨h1, g, d, tk, os⟩
  refine wpAny_bind (wpAny_mkInt ?_)
  show wpAny _ _ (setField (.ref e) 3 (rawInt ((i : Int) + 1)) >>= _) _ _ ⟨h1, g, d, tk + 1, os⟩
  refine wpAny_bind (wpAny_setField_rec e1 (by simp) fun h2 e2 s2 => ?_)
  have s2 : Heap.SameBut e h1 h2 := s2
  have e2 : EnHeld h2 e it ((i : Int) + 1) T b old := e2
  show wpAny _ _ (setField (.ref e) 4 .none >>= _) _ _ ⟨h2, g, d, tk + 1, os⟩
  refine wpAny_bind (wpAny_setField_rec e2 (by simp) fun h3 e3 s3 => ?_)
  have s3 : Heap.SameBut e h2 h3 := s3
  have e3 : EnHeld h3 e it ((i : Int) + 1) T b old := e3
  show wpAny _ _ (newTuple [.int i tk, x] >>= _) _ _ ⟨h3, g, d, tk + 1, os⟩
  refine wpAny_bind (wpAny_newTuple ?_)
  have sz : h3.objs.size = hp.objs.size := by rw [s3.1, s2.1, s1.1]
  have kk : ∀ c o, c ≠ e → c ≠ it → hp.get? c = some o → (h3.push { cls := .type "tuple", data := .seq #[.int i tk, x] }).get? c = some o := fun c o c1 c2 hc =>
    Heap.get?_push_of_some _ (s3.extBut c o c1 (s2.extBut c o c1 (s1.extBut c o c2 hc)))
  have e4 : EnHeld (h3.push { cls := .type "tuple", data := .seq #[.int i tk, x] }) e it ((i : Int) + 1) T b old := Heap.get?_push_of_some _ e3
  have t4 : (h3.push { cls := .type "tuple", data := .seq #[.int i tk, x] }).get? hp.objs.size = some { cls := .type "tuple", data := .seq #[.int i tk, x] } := by rw [← sz]; exact Heap.get?_push_size _ rfl
  have z4 : (h3.push { cls := .type "tuple", data := .seq #[.int i tk, x] }).objs.size = hp.objs.size + 1 := by rw [Heap.size_push, sz]
  have l4 : (h3.push { cls := .type "tuple", data := .seq #[.int i tk, x] }).IsListIter it l (i + 1) := by
    obtain ⟨o, ho, r⟩ := (it1.extBut s2.extBut (Ne.symm hne)).extBut s3.extBut (Ne.symm hne)
    exact ⟨o, Heap.get?_push_of_some _ ho, r⟩
  have T4 := kk T ob hTe hTi hT
  have el : e < hp.objs.size := Heap.lt_size he
  rw [sz]
  generalize h3.push { cls := .type "tuple", data := .seq #[.int i tk, x] } = h4 at kk e4 t4 z4 l4 T4
  show wpAny _ _ (Builtin.SmallTypes.ownedTupleIsFree (.ref e) >>= _) _ _ ⟨h4, g, d, tk + 1, os⟩
  refine wpAny_bind ?_
  unfold Builtin.SmallTypes.ownedTupleIsFree
  refine wpAny_bind (wpAny_field e4 rfl (x := rawInt T) rfl ?_)
  refine wpAny_bind (alive_ok ?_)
  have T4' : h4.get? (Int.toNat (T : Int)) = some ob := by rw [Int.toNat_natCast]; exact T4
  dsimp only [Int.ofNat_eq_natCast]
  rw [T4']
  simp only [Option.isNone_some, Bool.false_eq_true, if_false]
  refine wpAny_bind (wpAny_field e4 rfl (x := .bool b) rfl ?_)
  have fin : ∀ (h' : Heap) (b' : Bool), EnHeld h' e it ((i : Int) + 1) T b' old → Heap.SameBut e h4 h' → Q (.ref hp.objs.size) ⟨h', g, d, tk + 1, os⟩ := fun h' b' e5 s5 =>
    hQ h' b' e5 (l4.extBut s5.extBut (Ne.symm hne)) (s5.extBut _ _ (Nat.ne_of_gt el) t4) (by rw [s5.1, z4]) fun c o c1 c2 hc => s5.extBut c o c1 (kk c o c1 c2 hc)
  cases b with
  | true =>
    rw [if_neg (by decide)]
    refine wpAny_pure ?_
    rw [if_neg Bool.false_ne_true]
    exact wpAny_pure ⟨_, rfl, fin h4 true e4 (Heap.SameBut.refl _ _)⟩
  | false =>
    rw [if_pos (by decide)]
    refine wpAny_bind (wpAny_setField_rec e4 (by simp) fun h5 e5 s5 => wpAny_pure ?_)
    rw [if_neg Bool.false_ne_true]
    exact wpAny_pure ⟨_, rfl, fin h5 true e5 s5⟩
theorem en_next {e it l : Addr} {i : Nat} {items : Array Value} {x : Value} {Q : Option Value → Shared → Prop} (he : EnSt s.heap e it i) (ha : ∀ T b x, EnHeld s.heap e it i T b x → T ≠ it) (hit : s.heap.IsListIter it l i) (hl : s.heap.IsList l items) (hx : items[i]? = some x) (hne : e ≠ it)
    (hQ : ∀ h' T b y, EnHeld h' e it ((i : Int) + 1) T b y → (T = s.heap.objs.size ∨ ∃ b y, EnHeld s.heap e it i T b y) → h'.IsListIter it l (i + 1) → h'.get? s.heap.objs.size = some { cls := .type "tuple", data := .seq #[.int i s.toks, x] } → h'.objs.size = s.heap.objs.size + 1 →
      (∀ c o, c ≠ e → c ≠ it → s.heap.get? c = some o → h'.get? c = some o) → Q (some (.ref s.heap.objs.size)) { s with heap := h', toks := s.toks + 1 }) :
    wpAny (model prog w) A (pyNext (.ref e)) Q E s := by
  rcases he with ⟨old, he⟩ | ⟨T, b, y, ob, he, hT, hTe⟩
  · exact wpAny_pyNext_enum_item he hit hl hx hne fun h' a1 a2 a3 a4 a5 => hQ h' _ _ _ a1 (.inl rfl) a2 a3 a4 a5
  · have hty : s.TypeIs (.ref e) "enumerate" := ⟨_, he, rfl⟩
    unfold pyNext
    exact wpAny_bind (wpAny_attempt (wpAny_callSpecial?_slot (name := Str.ofString "__next__") hty F.slot_enumerate_next
      (wpAny_call_entry F.slot_enumerate_next hty F.entry_enumerate_next
        (held_next he hT hTe (ha _ _ _ he) hit hl hx hne fun h' b' a1 a2 a3 a4 a5 => wpAny_pure (hQ h' _ _ _ a1 (.inr ⟨_, _, he⟩) a2 a3 a4 a5)) (F.args_enumerate_next_1 _))))
theorem en_end {e it l : Addr} {i : Nat} {items : Array Value} {Q : Option Value → Shared → Prop} (hh : A.handled = none) (he : EnSt s.heap e it i) (hit : s.heap.IsListIter it l i) (hl : s.heap.IsList l items) (hx : items[i]? = none)
    (hQ : ∀ h', Heap.ExtBut it s.heap h' → Q none { s with heap := h' }) : wpAny (model prog w) A (pyNext (.ref e)) Q E s := by
  rcases he with ⟨old, he⟩ | ⟨T, b, y, ob, he, _, _⟩
  · exact wpAny_pyNext_enum_end hh he hit hl hx hQ
  · have hty : s.TypeIs (.ref e) "enumerate" := ⟨_, he, rfl⟩
    unfold pyNext
    refine wpAny_bind (wpAny_attempt (wpAny_callSpecial?_slot (name := Str.ofString "__next__") hty F.slot_enumerate_next
      (wpAny_call_entry F.slot_enumerate_next hty F.entry_enumerate_next ?_ (F.args_enumerate_next_1 _))))
    show wpAny _ _ (field (.ref e) 2 >>= _) _ _ _
    refine wpAny_bind (wpAny_field he rfl (x := .ref it) rfl ?_)
    refine wpAny_bind (wpAny_nextOf_list_end hh hit hl hx fun h' x he' hx' => ?_)
    obtain ⟨o, ho, hc⟩ := hx'
    exact wpAny_bind (wpAny_isInstance (T := "StopIteration") (b := true) ⟨o, ho, hc⟩ isSubtype_stop (wpAny_pure (hQ _ he')))
end
end Rw
set_option Elab.async false
set_option linter.all false
set_option maxRecDepth 100000
set_option maxHeartbeats 4000000
namespace Rw
open PySem PySem.Spec PyProof.Rows L2
/-- the pairs laid so far, from base on -/
structure EnG (base : Addr) (items : Array Value) (h : Heap) (as : List Addr) : Prop where
  up : as.Pairwise (· < ·)
  low : ∀ a ∈ as, base ≤ a ∧ a < h.objs.size
  at' : ∀ (j : Nat) (a : Addr), as[j]? = some a → ∃ t v, items[j]? = some v ∧ h.get? a = some { cls := .type "tuple", data := .seq #[.int j t, v] }
theorem EnG.keep {base : Addr} {items : Array Value} {h h' : Heap} {as : List Addr} (g : EnG base items h as) (k : ∀ b o, base ≤ b → h.get? b = some o → h'.get? b = some o) (hz : h.objs.size ≤ h'.objs.size) : EnG base items h' as :=
  ⟨g.up, fun a ha => ⟨(g.low a ha).1, Nat.lt_of_lt_of_le (g.low a ha).2 hz⟩, fun j a e => let ⟨t, v, h1, h2⟩ := g.at' j a e; ⟨t, v, h1, k a _ (g.low a (List.mem_of_getElem? e)).1 h2⟩⟩
theorem EnG.snoc {base : Addr} {items : Array Value} {h : Heap} {as : List Addr} {a : Addr} {t : Nat} {v : Value} (g : EnG base items h as) (hb : base ≤ a) (hz : a < h.objs.size) (hl : ∀ b ∈ as, b < a) (hv : items[as.length]? = some v)
    (ha : h.get? a = some { cls := .type "tuple", data := .seq #[.int as.length t, v] }) : EnG base items h (as ++ [a]) := by
  refine ⟨List.pairwise_append.mpr ⟨g.up, List.pairwise_singleton _ _, fun x hx y hy => ?_⟩, fun x hx => ?_, fun j x e => ?_⟩
  · rw [List.mem_singleton.mp hy]
    exact hl x hx
  · rcases List.mem_append.mp hx with hx | hx
    · exact g.low x hx
    · rw [List.mem_singleton.mp hx]
      exact ⟨hb, hz⟩
  · rcases Nat.lt_trichotomy j as.length with hj | hj | hj
    · rw [List.getElem?_append_left hj] at e
      exact g.at' j x e
    · subst hj
      rw [List.getElem?_append_right (Nat.le_refl _), Nat.sub_self] at e
      cases e
      exact ⟨t, v, hv, ha⟩
    · rw [List.getElem?_eq_none (by rw [List.length_append, List.length_singleton]; omega)] at e
      cases e
def EL (base : Addr) (h : Heap) (e it : Addr) (i : Int) : Prop := (∃ old, IsEnum h e it i old) ∨ ∃ T b x ob, EnHeld h e it i T b x ∧ h.get? T = some ob ∧ base ≤ T
section
variable {prog : Program} {w : World} {A : Around} {R : Result → Shared → Prop} {s : Shared}
theorem held_same {h : Heap} {e it : Addr} {i i' : Int} {T T' : Addr} {b b' : Bool} {x x' : Value} (h1 : EnHeld h e it i T b x) (h2 : EnHeld h e it i' T' b' x') : T = T' := by
  unfold EnHeld at h1 h2
  rw [h1] at h2
  have h3 := Option.some.inj h2
  have h4 : (#[rawInt T, .bool b, .ref it, rawInt i, .none, x] : Array Value) = #[rawInt T', .bool b', .ref it, rawInt i', .none, x'] := by injection h3 with _ _ h5 _; injection h5
  have h5 := congrArg (fun a => a[0]?) h4
  have h6 : rawInt T = rawInt T' := Option.some.inj h5
  unfold rawInt at h6
  injection h6 with h7 _
  exact_mod_cast h7
theorem not_held {h : Heap} {e it : Addr} {i i' : Int} {T : Addr} {b : Bool} {x old : Value} (h1 : IsEnum h e it i old) (h2 : EnHeld h e it i' T b x) : False := by
  unfold EnHeld at h2
  unfold IsEnum at h1
  rw [h1] at h2
  have h3 := Option.some.inj h2
  have h4 : (#[.none, .bool false, .ref it, rawInt i, .none, old] : Array Value) = #[rawInt T, .bool b, .ref it, rawInt i', .none, x] := by injection h3 with _ _ h5 _; injection h5
  have h5 := congrArg (fun a => a[0]?) h4
  have h6 : Value.none = rawInt T := Option.some.inj h5
  unfold rawInt at h6
  cases h6
theorem en_loop {S e it l base : Addr} (hh : A.handled = none) (hSe : S ≠ e) (hSi : S ≠ it) (hSl : S ≠ l) (hle : l ≠ e) (hli : l ≠ it) (hei : e ≠ it) (bS : S < base) (be : e < base) (bi : it < base) (items : Array Value) (hn : items.size ≤ sizeLine) (res : Value) {h1 : Heap}
    (hR : ∀ h' tk acc c as, (∀ b o, b ≠ S → b ≠ e → b ≠ it → h1.get? b = some o → h'.get? b = some o) → h'.get? S = some { cls := .type "list", dict := none, data := .seq acc c, slots := #[] } → as.length = items.size → EnG base items h' as →
      acc.toList = as.map Value.ref → R (.ok (.ret res)) { s with heap := h', toks := tk }) :
    ∀ (k i : Nat) (h : Heap) (tk c : Nat) (acc : Array Value) (as : List Addr), items.size - i = k → i ≤ items.size → EL base h e it i → h.IsListIter it l i → h.IsList l items → (∀ b o, b ≠ S → b ≠ e → b ≠ it → h1.get? b = some o → h.get? b = some o) →
      h.get? S = some { cls := .type "list", dict := none, data := .seq acc c, slots := #[] } → acc.toList = as.map Value.ref → as.length = i → EnG base items h as → base ≤ h.objs.size →
      codeAny (model prog w) A (.builtin "list.extend.loop" ⟨[.ref S, .ref e, res], []⟩) R { s with heap := h, toks := tk } := by
  intro k
  induction k with
  | zero =>
    intro i h tk c acc as hk hi he hit hl kp hS hacc has hG hb
    have hin : i = items.size := by omega
    subst hin
    refine codeAny_builtin F.entry_extend_loop ?_
    rw [Around.under_plainId F.plain_extend_loop _]
    show wpAny _ A.in1 (pyNext (.ref e) >>= _) _ _ _
    have he' : EnSt h e it items.size := he.elim .inl fun ⟨T, b, x, ob, z1, z2, z3⟩ => .inr ⟨T, b, x, ob, z1, z2, Nat.ne_of_gt (Nat.lt_of_lt_of_le be z3)⟩
    refine wpAny_bind (en_end (s := { s with heap := h, toks := tk }) (A := A.in1) hh he' hit hl (Array.getElem?_eq_none (Nat.le_refl _)) fun h' eb => ?_)
    refine wpAny_pure (hR h' tk acc c as (fun b o b1 b2 b3 eo => eb b o b3 (kp b o b1 b2 b3 eo)) (eb S _ hSi hS) has ?_ hacc)
    refine ⟨hG.up, fun a ha => ?_, fun j a ej => ?_⟩
    · obtain ⟨z1, z2⟩ := hG.low a ha
      obtain ⟨j, hj⟩ := List.mem_iff_getElem?.mp ha
      obtain ⟨t, v, _, q⟩ := hG.at' j a hj
      exact ⟨z1, Heap.lt_size (eb a _ (Nat.ne_of_gt (Nat.lt_of_lt_of_le bi z1)) q)⟩
    · obtain ⟨t, v, q1, q2⟩ := hG.at' j a ej
      exact ⟨t, v, q1, eb a _ (Nat.ne_of_gt (Nat.lt_of_lt_of_le bi (hG.low a (List.mem_of_getElem? ej)).1)) q2⟩
  | succ k ih =>
    intro i h tk c acc as hk hi he hit hl kp hS hacc has hG hb
    have hlt : i < items.size := by omega
    have hx : items[i]? = some items[i] := Array.getElem?_eq_getElem hlt
    have hsz : acc.size = i := by rw [← Array.length_toList, hacc, List.length_map, has]
    refine codeAny_builtin F.entry_extend_loop ?_
    rw [Around.under_plainId F.plain_extend_loop _]
    show wpAny _ A.in1 (pyNext (.ref e) >>= _) _ _ _
    have he' : EnSt h e it i := he.elim .inl fun ⟨T, b, x, ob, z1, z2, z3⟩ => .inr ⟨T, b, x, ob, z1, z2, Nat.ne_of_gt (Nat.lt_of_lt_of_le be z3)⟩
    have hT0 : ∀ T b x, EnHeld h e it i T b x → base ≤ T ∧ ∃ ob, h.get? T = some ob := fun T b x hT => by
      rcases he with ⟨old, z⟩ | ⟨T', b', x', ob, z1, z2, z3⟩
      · exact (not_held z hT).elim
      · rw [held_same hT z1]
        exact ⟨z3, ob, z2⟩
    refine wpAny_bind (en_next (s := { s with heap := h, toks := tk }) (A := A.in1) he' (fun T b x hT => Nat.ne_of_gt (Nat.lt_of_lt_of_le bi (hT0 T b x hT).1)) hit hl hx hei fun h' T b y a1 a2 a3 a4 a5 a6 => ?_)
    have a4 : h'.get? h.objs.size = some { cls := .type "tuple", data := .seq #[.int i tk, items[i]] } := a4
    have a5 : h'.objs.size = h.objs.size + 1 := a5
    have a6 : ∀ c o, c ≠ e → c ≠ it → h.get? c = some o → h'.get? c = some o := a6
    have hS' := a6 S _ hSe hSi hS
    have up : ∀ b o, b ≠ S → h'.get? b = some o → (h'.update S (Obj.mapSeq (·.push (Value.ref h.objs.size)))).get? b = some o := fun b o hb e => (Heap.get?_update_other _ _ (Ne.symm hb)).trans e
    have usz : (h'.update S (Obj.mapSeq (·.push (Value.ref h.objs.size)))).objs.size = h.objs.size + 1 := by rw [(Heap.SameBut.update ..).1, a5]
    have hbT : base ≤ T ∧ ∃ ob, h'.get? T = some ob := by
      rcases a2 with z | ⟨b0, y0, z⟩
      · rw [show T = h.objs.size from z]
        exact ⟨hb, _, a4⟩
      · obtain ⟨q1, ob, q2⟩ := hT0 T b0 y0 z
        exact ⟨q1, ob, a6 T ob (Nat.ne_of_gt (Nat.lt_of_lt_of_le be q1)) (Nat.ne_of_gt (Nat.lt_of_lt_of_le bi q1)) q2⟩
    show wpAny _ A.in1 (updateSeq S (·.push (Value.ref h.objs.size)) >>= _) _ _ _
    refine wpAny_bind ?_
    refine wpAny_updateSeq hS' rfl (wpAny_pure ⟨plainId_quiet F.plain_extend_loop _, ih (i + 1) _ _ _ (acc.push (Value.ref h.objs.size)) (as ++ [h.objs.size]) (by omega) hlt ?_ (a3.at fun o q => up it o (Ne.symm hSi) q) (hl.at fun o q => up l o (Ne.symm hSl) (a6 l o hle hli q))
      (fun b o b1 b2 b3 eo => up b o b1 (a6 b o b2 b3 (kp b o b1 b2 b3 eo))) (Heap.get?_update_self _ hS' rfl) (by rw [Array.toList_push, hacc, List.map_append]; rfl) (by rw [List.length_append, has]; rfl) ?_ (by rw [usz]; exact Nat.le_succ_of_le hb)⟩) (by rw [hsz]; omega) (by show (acc.push (Value.ref h.objs.size)).size ≤ sizeLine + 1; rw [Array.size_push, hsz]; omega)
    · obtain ⟨ob, q⟩ := hbT.2
      refine .inr ⟨T, b, y, ob, ?_, up T ob (Nat.ne_of_gt (Nat.lt_of_lt_of_le bS hbT.1)) q, hbT.1⟩
      have e1 : ((i + 1 : Nat) : Int) = (i : Int) + 1 := by omega
      rw [e1]
      exact up e _ (Ne.symm hSe) a1
    · have g2 : EnG base items (h'.update S (Obj.mapSeq (·.push (Value.ref h.objs.size)))) as := hG.keep (fun b o b1 q => up b o (Nat.ne_of_gt (Nat.lt_of_lt_of_le bS b1)) (a6 b o (Nat.ne_of_gt (Nat.lt_of_lt_of_le be b1)) (Nat.ne_of_gt (Nat.lt_of_lt_of_le bi b1)) q)) (by rw [usz]; exact Nat.le_succ _)
      exact g2.snoc (t := tk) (v := items[i]) hb (by rw [usz]; exact Nat.lt_succ_self _) (fun b hb' => (hG.low b hb').2) (by rw [has]; exact hx) (up _ _ (Nat.ne_of_gt (Nat.lt_of_lt_of_le bS hb)) (by rw [has]; exact a4))
end
end Rw
set_option Elab.async false
set_option linter.all false
set_option maxRecDepth 100000
set_option maxHeartbeats 4000000
namespace Rw
open PySem PySem.Spec PyProof.Rows L2
section
variable {prog : Program} {w : World} {A : Around} {E : Value → Shared → Prop} {s : Shared}
theorem call_listEnum {e it l : Addr} {old : Value} {items : Array Value} {Q : Value → Shared → Prop} (hh : A.handled = none) (he : IsEnum s.heap e it 0 old) (hit : s.heap.IsListIter it l 0) (hl : s.heap.IsList l items) (hei : e ≠ it) (hle : l ≠ e) (hli : l ≠ it) (hn : items.size ≤ sizeLine)
    (hQ : ∀ h' tk acc c as, (∀ b o, b ≠ e → b ≠ it → s.heap.get? b = some o → h'.get? b = some o) → h'.get? s.heap.objs.size = some { cls := .type "list", dict := none, data := .seq acc c, slots := #[] } → as.length = items.size → EnG (s.heap.objs.size + 1) items h' as →
      acc.toList = as.map Value.ref → Q (.ref s.heap.objs.size) { s with heap := h', toks := tk }) :
    wpAny (model prog w) A (call (.type "list") [.ref e]) Q E s := by
  refine callType_codes (Q₁ := fun obj s₁ => obj = .ref s.heap.objs.size ∧ s₁ = { s with heap := s.heap.push { cls := .type "list", data := .seq #[] } }) F.called_list (F.typeCall_list_1 _) F.entry_list_init (code_list_new _ ⟨rfl, rfl⟩) fun obj s₁ h₁ => ?_
  obtain ⟨rfl, rfl⟩ := h₁
  generalize hS0 : s.heap.objs.size = S at hQ ⊢
  have lo : ∀ b o, s.heap.get? b = some o → b < S := fun b o q => by rw [← hS0]; exact Heap.lt_size q
  have be := lo _ _ he
  have bi : it < S := let ⟨o, ho, _⟩ := hit; lo _ _ ho
  have bl : l < S := let ⟨o, ho, _⟩ := hl; lo _ _ ho
  have kp0 : ∀ b o, s.heap.get? b = some o → (s.heap.push { cls := .type "list", data := .seq #[] }).get? b = some o := fun b o q => Heap.get?_push_of_some _ q
  have hS : (s.heap.push { cls := .type "list", data := .seq #[] }).get? S = some { cls := .type "list", data := .seq #[] } := by rw [← hS0]; exact Heap.get?_push_size _ rfl
  have hz : (s.heap.push { cls := .type "list", data := .seq #[] }).objs.size = S + 1 := by rw [Heap.size_push, hS0]
  generalize hh0 : s.heap.push { cls := .type "list", data := .seq #[] } = h0 at kp0 hS hz
  refine ⟨⟨_, hS, rfl⟩, F.args_list_init_2 _ _, ?_⟩
  show wpAny _ _ (do let old ← Builtin.List.listItems (.ref S); Builtin.List.listUpdate (.ref S) (fun _ => #[]); letGo old.toList.reverse; Builtin.List.listExtendWith (.ref S) (.ref e) .none) _ _ _
  refine wpAny_bind ?_
  unfold Builtin.List.listItems
  refine wpAny_bind (wpAny_seqItems hS rfl (wpAny_pure ?_))
  show wpAny _ _ (updateSeq S (fun _ => #[]) >>= fun _ => letGo (#[] : Array Value).toList.reverse >>= fun _ => Builtin.List.listExtendWith (.ref S) (.ref e) .none) _ _ _
  refine wpAny_bind (wpAny_updateSeq hS rfl ?_)
  have hS1 := Heap.get?_update_self (Obj.mapSeq (fun _ => (#[] : Array Value))) hS rfl
  have kp1 : ∀ b o, b ≠ S → h0.get? b = some o → (h0.update S (Obj.mapSeq (fun _ => (#[] : Array Value)))).get? b = some o := fun b o hb q => (Heap.get?_update_other _ _ (Ne.symm hb)).trans q
  have hz1 : (h0.update S (Obj.mapSeq (fun _ => (#[] : Array Value)))).objs.size = S + 1 := by rw [(Heap.SameBut.update ..).1, hz]
  generalize h0.update S (Obj.mapSeq (fun _ => (#[] : Array Value))) = g at hS1 kp1 hz1
  refine wpAny_bind (wpAny_letGo ?_)
  have keep : ∀ b o, s.heap.get? b = some o → g.get? b = some o := fun b o q => kp1 b o (Nat.ne_of_lt (lo b o q)) (kp0 b o q)
  have he1 : IsEnum g e it 0 old := keep _ _ he
  have hit1 : g.IsListIter it l 0 := hit.at fun o q => keep _ o q
  have hl1 : g.IsList l items := hl.at fun o q => keep _ o q
  unfold Builtin.List.listExtendWith
  have hty : ({ s with heap := g } : Shared).TypeIs (.ref e) "enumerate" := ⟨_, he1, rfl⟩
  refine wpAny_bind (wpAny_typeOf hty ?_)
  have c1 : Builtin.List.listSameRef (.ref S) (.ref e) = false := by simp [Builtin.List.listSameRef, Nat.ne_of_gt be]
  have c2 : (Value.type "enumerate" == Value.type "list") = false := by decide
  have c3 : (Value.type "enumerate" == Value.type "tuple") = false := by decide
  simp only [c1, c2, c3, Bool.or_false, Bool.false_eq_true, if_false]
  refine wpAny_bind (wpAny_pyIter_enum he1 ?_)
  refine wpAny_bind (wpAny_holding ?_)
  unfold Builtin.List.listLengthHint
  refine wpAny_bind (wpAny_specialOf hty EnF.no_len ?_)
  show wpAny _ _ (specialOf (Value.ref e) (Str.ofString "__length_hint__") >>= _) _ _ _
  refine wpAny_bind (wpAny_specialOf hty EnF.no_hint ?_)
  refine wpAny_pure ?_
  have loop : ∀ (h : Heap) (c : Nat), (∀ b o, b ≠ S → g.get? b = some o → h.get? b = some o) → h.objs.size = S + 1 → h.get? S = some { cls := .type "list", dict := none, data := .seq #[] c, slots := #[] } →
      codeAny (model prog w) A.in1 (.builtin "list.extend.loop" ⟨[.ref S, .ref e, .none], []⟩) (wants (fun r s2 => r = .none ∧ Q (.ref S) s2) E) { s with heap := h } := fun h c kp hz2 hS2 => by
    refine en_loop (prog := prog) (w := w) (A := A.in1) (R := wants (fun r s2 => r = .none ∧ Q (.ref S) s2) E) (s := s) (S := S) (it := it) (l := l) (base := S + 1) (h1 := s.heap) hh (Nat.ne_of_gt be) (Nat.ne_of_gt bi) (Nat.ne_of_gt bl) hle hli hei (Nat.lt_succ_self _) (Nat.lt_succ_of_lt be) (Nat.lt_succ_of_lt bi) items hn .none
      (fun h' tk acc c as k1 k2 k3 k4 k5 => ⟨rfl, hQ h' tk acc c as (fun b o b1 b2 q => k1 b o (Nat.ne_of_lt (lo b o q)) b1 b2 q) k2 k3 k4 k5⟩) items.size 0 h s.toks c #[] [] (Nat.sub_zero _) (Nat.zero_le _) (.inl ⟨old, kp e _ (Nat.ne_of_lt be) he1⟩)
      (hit1.at fun o q => kp it o (Nat.ne_of_lt bi) q) (hl1.at fun o q => kp l o (Nat.ne_of_lt bl) q) (fun b o b1 _ _ q => kp b o b1 (keep b o q)) hS2 rfl rfl ⟨List.Pairwise.nil, (fun a ha => nomatch ha), (fun j a q => by simp at q)⟩ (Nat.le_of_eq hz2.symm)
  refine wpAny_ite_split (fun _ => ?_) (fun _ => wpAny_pure ⟨plainId_quiet F.plain_extend_loop _, loop g _ (fun b o _ q => q) hz1 hS1⟩)
  refine wpAny_bind (wpAny_rule ?_)
  refine wpAny_bind ?_
  show wpAny _ _ (updateSeq S (·.push .none) >>= fun _ => updateSeq S (·.pop)) _ _ _
  refine wpAny_bind (wpAny_updateSeq hS1 rfl ?_)
  have hS2 := Heap.get?_update_self (Obj.mapSeq (·.push Value.none)) hS1 rfl
  refine wpAny_updateSeq (hz := by seq_fits) hS2 rfl ?_
  have hS3 := Heap.get?_update_self (Obj.mapSeq (·.pop)) hS2 rfl
  exact wpAny_pure ⟨plainId_quiet F.plain_extend_loop _, loop _ _ (fun b o hb q => (Heap.get?_update_other _ _ (Ne.symm hb)).trans ((Heap.get?_update_other _ _ (Ne.symm hb)).trans q)) (by rw [(Heap.SameBut.update ..).1, (Heap.SameBut.update ..).1, hz1]) hS3⟩
end
end Rw
set_option Elab.async false
set_option linter.all false
set_option maxRecDepth 100000
set_option maxHeartbeats 4000000
namespace Rw
open PySem PySem.Spec PyProof.Rows L2
/-! ### several new things at once -/
def layAll : Hp → List (Addr × HO) → Hp
  | H, [] => H
  | H, (a, o) :: r => layAll (upd H a o) r
theorem layAll_off {b : Addr} : ∀ {l : List (Addr × HO)} {H : Hp}, (∀ q ∈ l, q.1 ≠ b) → layAll H l b = H b
  | [], _, _ => rfl
  | (a, o) :: r, H, h => by
    show layAll (upd H a o) r b = H b
    rw [layAll_off fun q hq => h q (List.mem_cons_of_mem _ hq), upd_ne (Ne.symm (h (a, o) List.mem_cons_self))]
theorem layAll_at {a : Addr} {o : HO} : ∀ {l : List (Addr × HO)} {H : Hp}, (l.map (·.1)).Nodup → (a, o) ∈ l → layAll H l a = some o
  | (c, u) :: r, H, hn, h => by
    have hn' := List.nodup_cons.mp hn
    show layAll (upd H c u) r a = some o
    rcases List.mem_cons.mp h with e | h
    · cases e
      rw [layAll_off fun q hq z => hn'.1 (List.mem_map.mpr ⟨q, hq, z⟩), upd_same]
    · exact layAll_at hn'.2 h
theorem vrefs : ∀ as : List Addr, Vals (as.map V.ref) (as.map Value.ref)
  | [] => .nil
  | _ :: as => .cons rfl (vrefs as)
section
variable {X : Cx}
theorem Inv.laidAll {pins : List (Addr × Obj)} {σ : L2.St} {H : Hp} {s : Shared} {h' : Heap} {tk : Nat} {l : List (Addr × HO)} (I : Inv X pins σ H s) (hk : ∀ b o, s.heap.get? b = some o → h'.get? b = some o) (hn : (l.map (·.1)).Nodup) (hl : ∀ q ∈ l, s.heap.objs.size ≤ q.1)
    (new : ∀ q ∈ l, ObjOk X.prog X.w (layAll H l) h' q.1 q.2) : Inv X pins σ (layAll H l) { s with heap := h', toks := tk } := by
  have fresh : ∀ q ∈ l, H q.1 = none := fun q hq => I.hok.fresh (hl q hq)
  have off : ∀ b, (∀ q ∈ l, q.1 ≠ b) → layAll H l b = H b := fun b h => layAll_off h
  have kp : ∀ b u, H b = some u → layAll H l b = some u := fun b u e => by
    rw [off b fun q hq z => by rw [← z, fresh q hq] at e; cases e]
    exact e
  refine I.call' (ch := []) rfl ⟨fun b o q _ _ _ => hk b o q, fun b o q _ _ _ => ⟨o.slots, hk b o q⟩, fun b o q n _ => ?_, fun b o q _ => ⟨o, hk b o q⟩, fun b xs q => kp b _ q, fun b o u q => kp b _ q, fun b ps q => ⟨#[], by rw [kp b _ q]; simp⟩⟩ (fun b u q => ?_) I.bare fun b z => by simp at z
  · rw [off b fun p hp z => by
      have h1 := hl p hp
      rw [z] at h1
      exact absurd (Heap.lt_size q) (Nat.not_lt.mpr h1)]
    exact n
  · by_cases hb : ∃ p ∈ l, p.1 = b
    · obtain ⟨p, hp, e⟩ := hb
      subst e
      rw [layAll_at hn hp] at q
      cases q
      exact new p hp
    · rw [off b fun p hp z => hb ⟨p, hp, z⟩] at q
      exact (I.hok b u q).stay (fun d v _ y => hk d v y) (fun d y => kp d _ y) fun d xs y => kp d _ y
/-- what list(enumerate(..)) gives -/
def rListEnum (K : PySem.W.Frag) : V → Hp → VK → Prop := fun x H Q => ∃ (a : Addr) (xs : List V), x = .ref a ∧ SqL K H a xs ∧
  ∀ (H' : Hp) (p : Addr) (ts : List Addr), Same H H' → H p = none → (∀ t ∈ ts, H t = none) → H' p = some (.lst (ts.map V.ref)) → ts.length = xs.length → (∀ (j : Nat) (t : Addr), ts[j]? = some t → ∃ x, xs[j]? = some x ∧ H' t = some (.tup [.int (j : Nat), x])) → Q (.ref p) H'
def tListEnum (K : PySem.W.Frag) (te : TE) : TE := fun σ H Q => te σ H fun x H1 => rListEnum K x H1 Q
theorem pe_listEnum {e : Expr} {te : TE} {p p2 pos pos2 : Pos} (hc : X.calm = true) (he : PE X e te) (hg : Gl X "list") (hm : X.mg "list" = none) (hg2 : Gl X "enumerate") (hm2 : X.mg "enumerate" = none)
    (hs : starEach [.Call (.Name "enumerate" p2) [e] [] pos2] X.env = (false, eval (.Call (.Name "enumerate" p2) [e] [] pos2) X.env) :: starEach [] X.env := by rfl) (hs2 : starEach [e] X.env = (false, eval e X.env) :: starEach [] X.env := by rfl) :
    PE X (.Call (.Name "list" p) [.Call (.Name "enumerate" p2) [e] [] pos2] [] pos) (tListEnum X.K te) := by
  refine ⟨fun pins s σ H Q I hq => ?_⟩
  refine wpAny_Call_Name_kw (ld_blt I hg hm PyProof.Rows.boot_list ?_)
  refine PyProof.Rows.callWith_type1 ?_ hs rfl
  rw [hs]
  show wpAny _ _ (spliced ((false, eval (.Call (.Name "enumerate" p2) [e] [] pos2) X.env) :: backTo pos (starEach [] X.env))) _ _ s
  refine Calls.spliced_cons ?_
  have ha := (pa_cons he pa_nil hs2).run pos2 pins s σ H (fun vs H1 => match vs with
    | [v] => rListEnum X.K v H1 Q
    | _ => False) I hq
  refine Call_ (ld_blt I hg2 hm2 boot_enumerate (PyProof.Rows.callWith_type1 (thn ha fun us s1 ⟨vs, H1, I1, r1, q1⟩ => ?_) hs2 rfl))
  cases vs with
  | nil => exact False.elim q1
  | cons v vs =>
    cases vs with
    | cons _ _ => exact False.elim q1
    | nil =>
      obtain ⟨a, xs, ev, hS, q⟩ := q1
      subst ev
      obtain ⟨u, rfl, ru⟩ := r1.one
      cases ru
      obtain ⟨its, rv, pl, hz⟩ := I1.list hS
      have hl : xs.length = its.length := rv.length
      refine call_enumerate_list pl.isList fun h2 he2 hit2 hsz2 hk2 => ?_
      refine Calls.spliced_nil ?_
      have ltA : a < s1.heap.objs.size := let ⟨o, ho, _⟩ := pl.isList; Heap.lt_size ho
      have I2 : Inv X pins σ H1 { s1 with heap := h2 } := I1.kept (t' := s1.toks) hk2
      refine call_listEnum (s := { s1 with heap := h2 }) (I1.ok.hd hc) he2 hit2 (pl.isList.at fun o q => hk2 _ o q) (Nat.succ_ne_self _) (Nat.ne_of_lt (Nat.lt_succ_of_lt ltA)) (Nat.ne_of_lt ltA) (by rw [List.size_toArray, ← hl]; exact hz) fun h' tk acc c as kp hN has hG hacc => ?_
      dsimp only at kp hN hG
      have hN2 : h2.objs.size = s1.heap.objs.size + 2 := hsz2
      generalize hNN : h2.objs.size = N at hN hG hN2
      have kp1 : ∀ b o, s1.heap.get? b = some o → h'.get? b = some o := fun b o z => by
        have lt := Heap.lt_size z
        exact kp b o (Nat.ne_of_lt (Nat.lt_succ_of_lt lt)) (Nat.ne_of_lt lt) (hk2 b o z)
      let tup : Addr × Nat → Addr × HO := fun q => (q.1, .tup [.int (q.2 : Nat), (xs[q.2]?).getD (.int 0)])
      have hkeys : ((as.zipIdx.map tup).map (·.1)) = as := by
        rw [List.map_map]
        exact List.zipIdx_map_fst 0 as
      have mem : ∀ q ∈ as.zipIdx.map tup, ∃ j, as[j]? = some q.1 ∧ q.2 = .tup [.int (j : Nat), (xs[j]?).getD (.int 0)] := fun q hq => by
        obtain ⟨⟨t, j⟩, h1, rfl⟩ := List.mem_map.mp hq
        exact ⟨j, List.mk_mem_zipIdx_iff_getElem?.mp h1, rfl⟩
      have nd : (((N, HO.lst (as.map V.ref)) :: as.zipIdx.map tup).map (·.1)).Nodup := by
        rw [List.map_cons, hkeys]
        refine List.nodup_cons.mpr ⟨fun z => ?_, List.Pairwise.imp (fun {x y} (z : x < y) => Nat.ne_of_lt z) hG.up⟩
        exact absurd (hG.low _ z).1 (Nat.not_succ_le_self _)
      have lows : ∀ q ∈ (N, HO.lst (as.map V.ref)) :: as.zipIdx.map tup, s1.heap.objs.size ≤ q.1 := fun q hq => by
        rcases List.mem_cons.mp hq with z | z
        · rw [z, hN2]
          exact Nat.le_add_right _ _
        · obtain ⟨j, h1, _⟩ := mem q z
          refine Nat.le_trans ?_ (hG.low _ (List.mem_of_getElem? h1)).1
          rw [hN2]
          exact Nat.le_succ_of_le (Nat.le_add_right _ _)
      have at' : ∀ (j : Nat) (t : Addr), as[j]? = some t → ∃ x w tt, xs[j]? = some x ∧ RelV x w ∧ h'.get? t = some { cls := .type "tuple", data := .seq #[.int j tt, w] } := fun j t ej => by
        obtain ⟨tt, w, h1, h2⟩ := hG.at' j t ej
        have hj : j < xs.length := by
          have z := (List.getElem?_eq_some_iff.mp ej).1
          rw [has, List.size_toArray] at z
          omega
        obtain ⟨w', g1, g2⟩ := rv.get (List.getElem?_eq_getElem hj)
        have h1 : its[j]? = some w := by simpa using h1
        rw [h1] at g1
        cases g1
        exact ⟨_, w, tt, List.getElem?_eq_getElem hj, g2, h2⟩
      have I3 : Inv X pins σ (layAll H1 ((N, HO.lst (as.map V.ref)) :: as.zipIdx.map tup)) { s1 with heap := h', toks := tk } := by
        refine Rw.Inv.laidAll I1 kp1 nd lows fun q hq => ?_
        rcases List.mem_cons.mp hq with z | z
        · subst z
          refine ⟨?_, acc.toList, c, by rw [hacc]; exact vrefs as, ?_⟩
          · rw [List.length_map, has, List.size_toArray, ← hl]
            exact hz
          · rw [Array.toArray_toList]
            exact hN
        · obtain ⟨j, h1, h2⟩ := mem q z
          obtain ⟨x, w, tt, e1, e2, e3⟩ := at' j _ h1
          rw [h2, e1]
          exact ⟨by show 2 ≤ sizeLine; decide, [.int j tt, w], .cons ⟨_, rfl⟩ (.cons e2 .nil), ⟨_, e3, rfl, _, rfl⟩⟩
      have freshN : H1 N = none := I1.hok.fresh (by rw [hN2]; exact Nat.le_add_right _ _)
      have freshT : ∀ t ∈ as, H1 t = none := fun t ht => I1.hok.fresh (by
        refine Nat.le_trans ?_ (hG.low t ht).1
        rw [hN2]
        exact Nat.le_succ_of_le (Nat.le_add_right _ _))
      refine ⟨.ref N, _, I3, rfl, q _ N as (fun b o z => ?_) freshN freshT (layAll_at nd List.mem_cons_self) (by rw [has, List.size_toArray, hl]) fun j t ej => ?_⟩
      · rw [layAll_off fun q hq y => ?_]
        · exact z
        · have f : H1 q.1 = none := by
            rcases List.mem_cons.mp hq with w | w
            · rw [w]
              exact freshN
            · obtain ⟨j, h1, _⟩ := mem q w
              exact freshT _ (List.mem_of_getElem? h1)
          rw [y, z] at f
          cases f
      · obtain ⟨x, w, tt, e1, e2, e3⟩ := at' j t ej
        refine ⟨x, e1, layAll_at nd (List.mem_cons_of_mem _ (List.mem_map.mpr ⟨(t, j), List.mk_mem_zipIdx_iff_getElem?.mpr ej, ?_⟩))⟩
        show (t, HO.tup [.int (j : Nat), (xs[j]?).getD (.int 0)]) = _
        rw [e1]
        rfl
end
end Rw
set_option Elab.async false
set_option linter.all false
set_option maxRecDepth 100000
set_option maxHeartbeats 4000000
namespace Rw
open PySem PySem.Spec PyProof.Rows L2
theorem meets_enum_tup (a : Addr) (items : Array Value) :
    Meets (Builtin.«enumerate.__new__» ⟨[.type "enumerate", .ref a], []⟩) (fun _ R s => s.heap.IsTuple a items ∧
      R (.ok (.ret (.ref (s.heap.push { cls := .type "tuple_iterator", data := .fields #[.ref a, .int 0 0] }).objs.size)))
        { s with heap := (s.heap.push { cls := .type "tuple_iterator", data := .fields #[.ref a, .int 0 0] }).push { cls := .type "enumerate", data := .fields #[.none, .bool false, .ref s.heap.objs.size, rawInt 0, .none, .none] } }) :=
  .of_wp fun prog w A R s h => by
    obtain ⟨hp, g, d, tk, os⟩ := s
    obtain ⟨h1, h⟩ := h
    have hsub := sub_enumerate
    have q1 : ∀ {A' : Around} {E : Value → Shared → Prop} {Q : Value → Shared → Prop}, Q (.ref hp.objs.size) ⟨hp.push { cls := .type "tuple_iterator", data := .fields #[.ref a, .int 0 0] }, g, d, tk, os⟩ → wpAny (model prog w) A' (pyIter (.ref a)) Q E ⟨hp, g, d, tk, os⟩ :=
      fun q => (begins_tuple a items).iter prog w _ _ ⟨hp, g, d, tk, os⟩ _ h1 q
    wp_walk using q1
    refine wpAny_stack_any fun st => wpAny_pure ?_
    split
    · rename_i c _ _ _ _ _
      cases (c == Value.type "enumerate")
      · wp_walk using q1
        exact ⟨_, rfl, h⟩
      · wp_walk using q1
        exact ⟨_, rfl, h⟩
    · wp_walk using q1
      exact ⟨_, rfl, h⟩
section
variable {prog : Program} {w : World} {A : Around} {E : Value → Shared → Prop} {s : Shared}
theorem call_enumT {a : Addr} {items : Array Value} {Q : Value → Shared → Prop} (ht : s.heap.IsTuple a items)
    (h : ∀ h', IsEnum h' (s.heap.objs.size + 1) s.heap.objs.size 0 .none → h'.IsTupleIter s.heap.objs.size a 0 → (∀ b o, s.heap.get? b = some o → h'.get? b = some o) → Q (.ref (s.heap.objs.size + 1)) { s with heap := h' }) :
    wpAny (model prog w) A (call (.type "enumerate") [.ref a]) Q E s := by
  refine callType_new F.called_enumerate (by decide) (F.typeCall_enumerate_1 _) (F.newCall_enumerate_1 _) (fun obj => F.args_object_init_2 obj _) F.entry_enumerate_new (meets_enum_tup a items) ⟨ht, ?_⟩
  have hz : (s.heap.push { cls := .type "tuple_iterator", data := .fields #[.ref a, .int 0 0] }).objs.size = s.heap.objs.size + 1 := Heap.size_push ..
  show _ ∧ _
  rw [hz]
  have he : IsEnum ((s.heap.push { cls := .type "tuple_iterator", data := .fields #[.ref a, .int 0 0] }).push { cls := .type "enumerate", data := .fields #[.none, .bool false, .ref s.heap.objs.size, rawInt 0, .none, .none] }) (s.heap.objs.size + 1) s.heap.objs.size 0 .none := by
    have z := Heap.get?_push_size (s.heap.push { cls := .type "tuple_iterator", data := .fields #[.ref a, .int 0 0] }) (o := { cls := .type "enumerate", data := .fields #[.none, .bool false, .ref s.heap.objs.size, rawInt 0, .none, .none] }) rfl
    rwa [hz] at z
  exact ⟨⟨_, he, rfl⟩, h _ he ⟨_, Heap.get?_push_of_some _ (Heap.get?_push_size _ rfl), rfl, rfl⟩ fun b o x => Heap.get?_push_of_some _ (Heap.get?_push_of_some _ x)⟩
end
/-- the tuple at a, each item in a new pair with its place -/
def ItET (K : PySem.W.Frag) (a : Addr) : It :=
  ⟨fun i H => ∃ (xs : List V) (x : V), SqT K H a xs ∧ xs[i]? = some x, fun i H v H' => ∃ T x, v = .ref T ∧ H T = none ∧ H' = upd H T (.tup [.int (i : Nat), x]) ∧ ∀ xs, SqT K H a xs → xs[i]? = some x,
    fun i H => ∃ xs : List V, SqT K H a xs ∧ xs.length = i⟩
theorem turn_enumT {P : Program} {w : World} {K : PySem.W.Frag} {elts : List Expr} {kk : Nat} {tpos : Pos} (a e it : Addr) :
    Turn P w K (.Tuple elts kk tpos) (ItET K a) [e, it] e (fun i h => (∃ old, IsEnum h e it ((i : Nat) : Int) old) ∧ h.IsTupleIter it a i ∧ e ≠ it ∧ a ≠ e ∧ a ≠ it) where
  mem := List.mem_cons_self
  obj := fun i h st b hb => by
    obtain ⟨⟨old, he⟩, ⟨o, ho, _, hd⟩, _⟩ := st
    rcases List.mem_cons.mp hb with z | z
    · rw [z]
      exact ⟨_, he, fun v q => nomatch q⟩
    · rw [List.mem_singleton.mp z]
      exact ⟨o, ho, fun v q => by rw [hd] at q; cases q⟩
  keep := fun i h h' st k =>
    let ⟨⟨old, he⟩, hi, hne⟩ := st
    ⟨⟨old, k e List.mem_cons_self _ he⟩, hi.at fun o q => k it (List.mem_cons_of_mem _ List.mem_cons_self) o q, hne⟩
  item := by
    intro X hP hw hK hc i pins s σ H E I hf st hg
    subst hP hw hK
    obtain ⟨⟨old, he⟩, hit, hne, hae, hai⟩ := st
    obtain ⟨xs, x, hq, hx⟩ := hg
    obtain ⟨its, rv, pt, hz⟩ := I.tuple hq
    obtain ⟨u, hu, ru⟩ := rv.get hx
    have pt' : s.heap.IsTuple a its.toArray := pt
    have el : e < s.heap.objs.size := Heap.lt_size he
    have il : it < s.heap.objs.size := let ⟨_, q, _⟩ := hit; Heap.lt_size q
    have hi : i < its.toArray.size := by
      have z := (List.getElem?_eq_some_iff.mp hu).1
      simpa using z
    refine wpAny_pyNext_enum_itemD (Draws.tuple (A := X.A.in1) (I.ok.hd hc) it a hai its.toArray) he ⟨hit, pt'⟩ hi hne (by
      intro z
      rcases List.mem_cons.mp z with z | z
      · exact hne z
      · exact hae (List.mem_singleton.mp z).symm) fun y h' tk hy ho hst' hT hsz hk => ?_
    have ey : y = u := by
      have z : its[i]? = some y := by simpa using hy
      rw [hu] at z
      exact (Option.some.inj z).symm
    subst ey
    refine ⟨_, rfl, wpAny_letOwnedTupleGo_enum (s := { s with heap := h', toks := tk + 1 }) ho fun h'' he' sb => ?_⟩
    have hT2 : h''.get? s.heap.objs.size = some { cls := .type "tuple", data := .seq #[.int i tk, y] } := (sb.2 _ (Nat.ne_of_gt el)).trans hT
    have I1 : Inv X pins σ (upd H s.heap.objs.size (.tup [.int (i : Nat), x])) { s with heap := h'', toks := tk + 1 } :=
      I.turnedNew (ch := [e, it]) (fun b ob hb q => (sb.2 b (fun z => hb (by simp [z]))).trans (hk b ob (fun z => hb (by simp [z])) (fun z => hb (by simp [z])) q)) hf (Nat.le_refl _)
        ⟨by show 2 ≤ sizeLine; decide, [.int i tk, y], .cons ⟨_, rfl⟩ (.cons ru .nil), ⟨_, hT2, rfl, _, rfl⟩⟩
    refine ⟨.ref s.heap.objs.size, _, I1, rfl, ⟨_, x, rfl, I.hok.fresh (Nat.le_refl _), rfl, fun ys hy => by rw [I.tuple_inj hy hq]; exact hx⟩, ⟨⟨y, ?_⟩, hst'.1.at fun o q => (sb.2 it (Ne.symm hne)).trans q, hne, hae, hai⟩, fun b hb => ?_⟩
    · have e1 : ((i + 1 : Nat) : Int) = (i : Int) + 1 := by omega
      rw [e1]
      exact he'
    · have hb' : b < s.heap.objs.size := by
        rcases List.mem_cons.mp hb with z | z
        · rw [z]
          exact el
        · rw [List.mem_singleton.mp z]
          exact il
      rw [upd_ne (Nat.ne_of_lt hb')]
      exact (hf b hb).1
  done := by
    intro X hP hw hK hc i pins s σ H E I hf st hg
    subst hP hw hK
    obtain ⟨⟨old, he⟩, hit, hne, hae, hai⟩ := st
    obtain ⟨xs, hq, hx⟩ := hg
    obtain ⟨its, rv, pt, hz⟩ := I.tuple hq
    have pt' : s.heap.IsTuple a its.toArray := pt
    obtain ⟨f0, f1, f2, f3, f4, f5⟩ := hf it (List.mem_cons_of_mem _ List.mem_cons_self)
    have hl : its.toArray.size = i := by rw [List.size_toArray, ← rv.length, hx]
    subst hl
    exact wpAny_pyNext_enum_endD (Draws.tuple (A := X.A.in1) (I.ok.hd hc) it a hai its.toArray) he ⟨hit, pt'⟩ fun h' eb => ⟨rfl, I.turned (t' := s.toks) (fun b o hb q => eb b o hb q) f0 f1 f3 f4 f5⟩
  self := fun A i s Q E st h => let ⟨⟨_, he⟩, _⟩ := st; wpAny_pyIter_enum he h
/-- over enumerate(e), e a list or a tuple -/
def EnJ (K : PySem.W.Frag) (H : Hp) (a : Addr) (xs : List V) (J : It) : Prop := (SqL K H a xs ∧ J = Ite K a) ∨ (SqT K H a xs ∧ J = ItET K a)
def iEnumS (K : PySem.W.Frag) (ta : TA) : TI := fun σ H R => ta σ H fun vs H1 => ∃ a xs J, vs = [.ref a] ∧ EnJ K H1 a xs J ∧ R J H1
theorem pi_enumS {X : Cx} {e : Expr} {ta : TA} {p pos tpos : Pos} {elts : List Expr} {kk : Nat} (hg : Gl X "enumerate") (hm : X.mg "enumerate" = none) (ha : PA X [e] ta) (hs : starEach [e] X.env = [(false, eval e X.env)] := by rfl) :
    PI X (.Tuple elts kk tpos) (.Call (.Name "enumerate" p) [e] [] pos) (iEnumS X.K ta) := by
  refine ⟨fun pins s σ H R I h => ?_⟩
  refine Call_ (ld_blt I hg hm boot_enumerate (PyProof.Rows.callWith_type1 (thn (ha.run pos pins s σ H _ I h) fun us s1 ⟨vs, H1, I1, r1, q1⟩ => ?_) hs rfl))
  obtain ⟨a, xs, J, ex, q1, q⟩ := q1
  subst ex
  obtain ⟨u, rfl, ru⟩ := r1.one
  cases ru
  have fp : ∀ b ∈ [s1.heap.objs.size + 1, s1.heap.objs.size], FpOk X pins H1 b := fun b hb => by
    have hle : s1.heap.objs.size ≤ b := by
      rcases List.mem_cons.mp hb with z | z
      · rw [z]
        exact Nat.le_succ _
      · rw [List.mem_singleton.mp z]
        exact Nat.le_refl _
    exact I1.fpOk hle (I1.hok.fresh hle)
  rcases q1 with ⟨hq, rfl⟩ | ⟨hq, rfl⟩
  · obtain ⟨its, rv, pl, hz⟩ := I1.list hq
    exact call_enumerate_list pl.isList fun h' he hit hsz hk => wpAny_pyIter_enum he
      ⟨s1.heap.objs.size + 1, [s1.heap.objs.size + 1, s1.heap.objs.size], _, _, H1, rfl, I1.kept (t' := s1.toks) hk, turn_enum a (s1.heap.objs.size + 1) s1.heap.objs.size, ⟨⟨.none, he⟩, hit, Nat.succ_ne_self _⟩, fp, q⟩
  · obtain ⟨its, rv, pt, hz⟩ := I1.tuple hq
    have lt : a < s1.heap.objs.size := let ⟨_, ho, _⟩ := pt; Heap.lt_size ho
    exact call_enumT (show s1.heap.IsTuple a its.toArray from pt) fun h' he hit hk => wpAny_pyIter_enum he
      ⟨s1.heap.objs.size + 1, [s1.heap.objs.size + 1, s1.heap.objs.size], _, _, H1, rfl, I1.kept (t' := s1.toks) hk, turn_enumT a (s1.heap.objs.size + 1) s1.heap.objs.size, ⟨⟨.none, he⟩, hit, Nat.succ_ne_self _, Nat.ne_of_lt (Nat.lt_succ_of_lt lt), Nat.ne_of_lt lt⟩, fp, q⟩
theorem walk_enumT {K : PySem.W.Frag} {a : Addr} {xs : List V} : Walk (ItET K a) xs.length (fun H => SqT K H a xs) (YPair (fun i => some (.int (i : Nat))) (fun i => xs[i]?)) := by
  refine ⟨fun i _ hi q => ⟨xs, xs[i], q, by simp [hi]⟩, fun _ q => ⟨xs, q, rfl⟩, fun i H v H' _ q y => ?_⟩
  obtain ⟨T, x, h1, h2, h3, h4⟩ := y
  exact ⟨T, .int (i : Nat), x, h1, h2, h3, rfl, h4 xs q⟩
end Rw
set_option Elab.async false
set_option linter.all false
set_option maxRecDepth 100000
set_option maxHeartbeats 4000000
namespace Rw
open PySem L2
abbrev sIsInteger : Stmt := top 3
abbrev sIsList : Stmt := top 4
abbrev sIsName : Stmt := top 5
/-! ### types -/
def K7 (n : String) : Prop := n = "NoneType" ∨ n = "bool" ∨ n = "int" ∨ n = "str" ∨ n = "list" ∨ n = "tuple" ∨ n = "dict"
/-- a value of one of these types -/
structure Ty (K : PySem.W.Frag) (H : Hp) (v : V) (n : String) : Prop where
  h : TyX K H v (.type n)
  m : K7 n
def isSeqN (n : String) : Bool := n == "list" || n == "tuple"
theorem kit_seq {n : String} (m : K7 n) {K : PySem.W.Frag} : PySem.W.kitAny K (.type n) [.type "list", .type "tuple"] = some (isSeqN n) := by
  rcases m with rfl | rfl | rfl | rfl | rfl | rfl | rfl
  · exact kitAny_cons (b := false) (kit_ty (by decide +kernel)) (fun _ => kitAny_cons (b := false) (kit_ty (by decide +kernel)) (fun _ => rfl) (fun z => by cases z)) (fun z => by cases z)
  · exact kitAny_cons (b := false) (kit_ty (by decide +kernel)) (fun _ => kitAny_cons (b := false) (kit_ty (by decide +kernel)) (fun _ => rfl) (fun z => by cases z)) (fun z => by cases z)
  · exact kitAny_cons (b := false) (kit_ty (by decide +kernel)) (fun _ => kitAny_cons (b := false) (kit_ty (by decide +kernel)) (fun _ => rfl) (fun z => by cases z)) (fun z => by cases z)
  · exact kitAny_cons (b := false) (kit_ty (by decide +kernel)) (fun _ => kitAny_cons (b := false) (kit_ty (by decide +kernel)) (fun _ => rfl) (fun z => by cases z)) (fun z => by cases z)
  · exact kitAny_cons (b := true) (kit_ty (by decide +kernel)) (fun z => by cases z) (fun _ => rfl)
  · exact kitAny_cons (b := false) (kit_ty (by decide +kernel)) (fun _ => kitAny_cons (b := true) (kit_ty (by decide +kernel)) (fun z => by cases z) (fun _ => rfl)) (fun z => by cases z)
  · exact kitAny_cons (b := false) (kit_ty (by decide +kernel)) (fun _ => kitAny_cons (b := false) (kit_ty (by decide +kernel)) (fun _ => rfl) (fun z => by cases z)) (fun z => by cases z)
theorem kit_one {n : String} (m : K7 n) {K : PySem.W.Frag} {c : String} (hc : c = "int" ∨ c = "bool" ∨ c = "str" ∨ c = "tuple" ∨ c = "dict") :
    PySem.W.kitOne K (.type n) (.type c) = some (n == c || (n == "bool" && c == "int")) := by
  refine kit_ty ?_
  rcases m with rfl | rfl | rfl | rfl | rfl | rfl | rfl <;> rcases hc with rfl | rfl | rfl | rfl | rfl <;> decide +kernel
theorem Ty.same {K : PySem.W.Frag} {H H' : Hp} {v : V} {n : String} (h : Ty K H v n) (s : Same H H') : Ty K H' v n := by
  obtain ⟨h, m⟩ := h
  refine ⟨?_, m⟩
  cases h with
  | base b =>
    refine .base ?_
    cases b with
    | non => exact .non
    | bl x => exact .bl x
    | int i => exact .int i
    | str x => exact .str x
    | lst e => exact .lst (s _ _ e)
    | frz e => exact .frz (s _ _ e)
    | tup e => exact .tup (s _ _ e)
    | dK e => exact .dK (s _ _ e)
    | dT e => exact .dT (s _ _ e)
    | flt x => exact .flt x
  | byt b => exact .byt b
  | set e => exact .set (s _ _ e)
  | kList e c => exact .kList e c
  | kTuple e c => exact .kTuple e c
  | kDict e c => exact .kDict e c
  | fTuple e => exact .fTuple (s _ _ e)
  | fDict e => exact .fDict (s _ _ e)
section
variable {P : Program} {w : World} {K : PySem.W.Frag} {mg : Str → Option Value} {base : Heap}
def spIsInteger (K : PySem.W.Frag) : Sp := fun vs H Q _ => ∃ (v : V) (n : String), vs = [v] ∧ Ty K H v n ∧ Q (.bl (n == "int")) H
theorem scIsInteger : FnScope ["thing"] ["thing"] (defScope sIsInteger) := ⟨rfl, rfl, rfl, by decide +kernel, rfl, by decide +kernel, by decide +kernel⟩
theorem ok_is_integer {f : Addr} {fd : FuncData} (F : Fun K "is_integer" "is_integer" sIsInteger f fd) (mi : mg "isinstance" = none) (m1 : mg "int" = none) (m2 : mg "bool" = none) : FnOk P w K mg base CX0 1 f fd ["thing"] (spIsInteger K) := by
  refine F.ok scIsInteger (fun vs H Q E h => ?_) (fun cdv A outer s H vs Q E hr h => ?_)
  · obtain ⟨v, n, rfl, _⟩ := h
    rfl
  obtain ⟨v, n, rfl, ⟨hT, m⟩, q⟩ := h
  refine ⟨_, pss_one (ps_ret (pe_and (pe_callB call_isi rfl mi (by decide +kernel) (pa_cons (pv 0) (pa_cons (pe_bltn (v := .ty "int") rfl m1 (by decide +kernel) rfl) pa_nil)))
    (pe_one (pe_not (pe_callB call_isi rfl mi (by decide +kernel) (pa_cons (pv 0) (pa_cons (pe_bltn (v := .ty "bool") rfl m2 (by decide +kernel) rfl) pa_nil))))))), ?_⟩
  refine ⟨_, rfl, v, .ty "int", _, _, _, rfl, ClsV.ty "int", hT, kit_one m (by simp), _, rfl, ?_⟩
  refine ite2 (fun c => ?_) (fun c => ?_)
  · refine ⟨_, rfl, v, .ty "bool", _, _, _, rfl, ClsV.ty "bool", hT, kit_one m (by simp), _, rfl, ?_⟩
    have e : (!(n == "bool" || (n == "bool" && "bool" == "int"))) = (n == "int") := by
      clear hT q
      rcases m with rfl | rfl | rfl | rfl | rfl | rfl | rfl <;> first | rfl | (revert c; decide)
    rw [e]
    exact q
  · have e : (n == "int") = false := by
      cases h : (n == "int") with
      | false => rfl
      | true => rw [h] at c; exact absurd rfl c
    rw [e] at q
    exact q
def spIsList (K : PySem.W.Frag) : Sp := fun vs H Q _ => ∃ (v : V) (n : String), vs = [v] ∧ Ty K H v n ∧ ∀ H', Same H H' → Q (.bl (isSeqN n)) H'
theorem scIsList : FnScope ["thing"] ["thing"] (defScope sIsList) := ⟨rfl, rfl, rfl, by decide +kernel, rfl, by decide +kernel, by decide +kernel⟩
theorem ok_is_list {f : Addr} {fd : FuncData} (F : Fun K "is_list" "is_list" sIsList f fd) (mi : mg "isinstance" = none) (m1 : mg "list" = none) (m2 : mg "tuple" = none) : FnOk P w K mg base CX0 1 f fd ["thing"] (spIsList K) := by
  refine F.ok scIsList (fun vs H Q E h => ?_) (fun cdv A outer s H vs Q E hr h => ?_)
  · obtain ⟨v, n, rfl, _⟩ := h
    rfl
  obtain ⟨v, n, rfl, hT, q⟩ := h
  refine ⟨_, pss_one (ps_ret (pe_callB call_isiT rfl mi (by decide +kernel) (pa_cons (pv 0) (pa_cons (pe_tup (pa_cons (pe_bltn (v := .ty "list") rfl m1 (by decide +kernel) rfl) (pa_cons (pe_bltn (v := .ty "tuple") rfl m2 (by decide +kernel) rfl) pa_nil))) pa_nil)))), ?_⟩
  refine ⟨_, rfl, (by show 2 ≤ sizeLine; decide), fun p hp => ?_⟩
  obtain ⟨hT, m⟩ := hT.same (same_new hp (.tup [.ty "list", .ty "tuple"]))
  exact ⟨v, p, _, _, _, _, rfl, upd_same, .cons (ClsV.ty "list") (.cons (ClsV.ty "tuple") .nil), hT, kit_seq m, q _ (same_new hp _)⟩
end
end Rw
set_option Elab.async false
set_option linter.all false
set_option maxRecDepth 100000
set_option maxHeartbeats 4000000
namespace Rw
open PySem L2
def letters : Str := "abcdefghijklmnopqrstuvwxyz"
def inLetters (c : Nat) : Bool := !(Builtin.Str.occurrences letters ⟨#[c]⟩ 0 letters.length 1).isEmpty
def nameB (z : Str) : Bool := decide (1 ≤ z.length) && decide (z.length ≤ 8) && z.cps.toList.all inLetters
theorem nameB_menu : ∀ x ∈ menu, nameB x = true := by decide +kernel
theorem len_menu : ∀ x ∈ menu, x.length ≤ 8 := by decide +kernel
theorem chosen_all (n : Nat) {b : Nat → Bool} (h : ∀ i, i < n → b i = true) : chosen n b = List.range n := by
  unfold chosen
  exact List.filter_eq_self.mpr fun i hi => h i (List.mem_range.mp hi)
theorem paired_bools {xs : List Nat} {f : Nat → Bool} : ∀ {n : Nat} {ys : List V}, n ≤ xs.length → Paired (fun i y => ∃ c, xs[i]? = some c ∧ y = V.bl (f c)) (List.range n) ys → ys = ((xs.take n).map f).map V.bl
  | 0, ys, _, r => by
    have r : Paired _ [] ys := r
    cases r
    rfl
  | n + 1, ys, hn, r => by
    rw [List.range_succ] at r
    obtain ⟨zs, y, rfl, h1, c, hc, hy⟩ := Rw.Paired.unsnoc r
    rw [paired_bools (by omega) h1, List.take_succ, hc, hy]
    simp
section
variable {P : Program} {w : World} {K : PySem.W.Frag} {mg : Str → Option Value} {base : Heap}
def spIsName (K : PySem.W.Frag) : Sp := fun vs H Q _ => ∃ (v : V) (b : Bool), vs = [v] ∧ ((∃ z : Str, v = .str z ∧ z.length ≤ 1000 ∧ b = nameB z) ∨ ∃ n, Ty K H v n ∧ n ≠ "str" ∧ b = false) ∧ ∀ H', Same H H' → Q (.bl b) H'
theorem scIsName : FnScope ["thing", "letter"] ["thing"] (defScope sIsName) := ⟨rfl, rfl, rfl, by decide +kernel, rfl, by decide +kernel, by decide +kernel⟩
theorem ok_is_name {f : Addr} {fd : FuncData} (F : Fun K "is_name" "is_name" sIsName f fd) (mi : mg "isinstance" = none) (m1 : mg "str" = none) (ml : mg "len" = none) (ma : mg "all" = none) {t1 t2 : Tok} (mL : mg "LONGEST_NAME" = some (.int 8 t1)) (mT : mg "LETTERS" = some (.str letters t2)) :
    FnOk P w K mg base CX0 1 f fd ["thing"] (spIsName K) := by
  refine F.ok scIsName (fun vs H Q E h => ?_) (fun cdv A outer s H vs Q E hr h => ?_)
  · obtain ⟨v, b, rfl, _⟩ := h
    rfl
  obtain ⟨v, b, rfl, hv, q⟩ := h
  refine ⟨_, pss_cons (ps_if (PW.pt (pw_or (pt_not (pt_val (pe_callB call_isi rfl mi (by decide +kernel) (pa_cons (pv 0) (pa_cons (pe_bltn (v := .ty "str") rfl m1 (by decide +kernel) rfl) pa_nil)))))
      (pw_or1 (pt_not (pt_chain op_le op_le pe_int (pe_callB call_len_str rfl ml PySem.boot_len (pa_cons (pv 0) pa_nil)) (pe_glob (v := .int 8) rfl mL ⟨_, rfl⟩)))))) (pss_one (ps_ret pe_bl)) pss_nil)
    (pss_one (ps_ret (pe_callB (cr_all rfl) rfl ma (by decide +kernel) (pa_cons (pe_lc (own := [("letter", 1)]) (g := gName 1) rfl scIsName.nd (pi_str (pv 0)) (blkOk_by (N := ["thing", "letter"]) (sc := defScope sIsName) (by decide +kernel))
      (fun _ _ _ _ _ => pg_name (i := 1) scIsName.nd rfl (Or.inl rfl)) (fun _ _ _ _ _ => pts_nil) (fun _ _ _ _ _ => pe_cmpR op_in_str (pv 1) (pe_glob (v := .str letters) rfl mT ⟨_, rfl⟩) rfl)) pa_nil)))), ?_⟩
  rcases hv with ⟨z, rfl, hz, rfl⟩ | ⟨n, hT, hn, rfl⟩
  · have k1 : PySem.W.kitOne K (.type "str") (.type "str") = some true := kit_ty (by decide +kernel)
    refine ⟨_, rfl, .str z, .ty "str", _, _, true, rfl, ClsV.ty "str", .base (.str z), k1, true, rfl, ?_⟩
    refine ite2 (fun c => by cases c) (fun _ => ?_)
    refine ⟨_, rfl, z, rfl, Nat.le_trans hz (by decide), _, _, rfl, rfl, _, rfl, ?_⟩
    have bad : nameB z = false → Q (.bl false) H := fun hb => by
      have y := q H (Same.refl H)
      rw [hb] at y
      exact y
    refine ite2 (fun c1 => ?_) (fun c1 => ?_)
    · have c1 : (1 : Int) ≤ ((z.length : Nat) : Int) := of_decide_eq_true c1
      refine ⟨_, _, rfl, rfl, _, rfl, ?_⟩
      refine ite2 (fun c2 => ?_) (fun c2 => ?_)
      · refine bad ?_
        have c2 : ¬ ((z.length : Nat) : Int) ≤ 8 := fun y => by rw [decide_eq_true y] at c2; cases c2
        unfold nameB
        rw [decide_eq_false (show ¬ z.length ≤ 8 by omega)]
        simp
      · have c2 : ((z.length : Nat) : Int) ≤ 8 := by
          by_cases y : ((z.length : Nat) : Int) ≤ 8
          · exact y
          · exact absurd (by rw [decide_eq_false y]; rfl) c2
        refine ⟨_, rfl, z, rfl, fun D hD => ?_⟩
        have e0 : z.cps.size = z.cps.toList.length := Array.length_toList.symm
        refine lc_map (S := Same) walk_str (stp_same D) hD (by show z.length ≤ 50000; omega) (fun _ => true) (fun j H y => ∃ c, z.cps.toList[j]? = some c ∧ y = .bl (inLetters c)) (fun _ _ _ _ _ h => h) (fun _ _ _ _ _ _ h => h) (fun _ _ => True.intro) ?_ ?_
        · rintro j x H2 H3 acc N Z hj s2 hacc ⟨rfl, c, hc, rfl⟩ hyes hno
          refine ⟨rfl, _, rfl, _, _, rfl, rfl, ?_⟩
          exact hyes rfl _ _ (Same.refl _) ⟨c, by rw [Array.getElem?_toList]; exact hc, rfl⟩
        · intro ys H3 s3 e3 r3
          rw [chosen_all _ (fun _ _ => rfl), e0] at r3
          have e4 := paired_bools (f := inLetters) (Nat.le_refl _) r3
          rw [List.take_length] at e4
          subst e4
          refine ⟨D, _, rfl, SqL.of e3, ?_⟩
          have e5 : (List.map inLetters z.cps.toList).all id = nameB z := by
            unfold nameB
            rw [decide_eq_true (show 1 ≤ z.length by omega), decide_eq_true (show z.length ≤ 8 by omega), List.all_map]
            rfl
          rw [e5]
          exact q H3 s3
    · refine ⟨false, rfl, (if_pos rfl).mpr ?_⟩
      refine bad ?_
      have c1 : ¬ (1 : Int) ≤ ((z.length : Nat) : Int) := fun y => c1 (decide_eq_true y)
      unfold nameB
      rw [decide_eq_false (show ¬ 1 ≤ z.length by omega)]
      rfl
  · have k1 : PySem.W.kitOne K (.type n) (.type "str") = some false := by
      have k2 := kit_one (K := K) hT.m (c := "str") (by simp)
      rw [k2]
      have h1 : (n == "str") = false := by simpa using hn
      rw [h1]
      cases (n == "bool") <;> rfl
    refine ⟨_, rfl, v, .ty "str", _, _, false, rfl, ClsV.ty "str", hT.h, k1, false, rfl, ?_⟩
    refine (if_pos rfl).mpr ?_
    exact (if_pos rfl).mpr (q H (Same.refl H))
end
end Rw
set_option Elab.async false
set_option linter.all false
set_option maxRecDepth 100000
set_option maxHeartbeats 4000000
namespace Rw
open PySem L2
abbrev sBadNameAt : Stmt := top 6
abbrev sBadChoiceAt : Stmt := top 9999
/-! ### dicts of names -/
def marks (ms : List Str) : List (Key × V) := ms.map fun x => (.inr x, .bl true)
theorem marks_len (ms : List Str) : (marks ms).length = ms.length := List.length_map _
theorem marks_not {x : Str} : ∀ {ms : List Str}, x ∉ ms → valV (marks ms) (.inr x : Key) = none
  | [], _ => rfl
  | m :: ms, h => by
    show valV ((.inr m, .bl true) :: marks ms) (.inr x : Key) = none
    rw [valV_neg fun e => h (by injection e with e; rw [e]; exact List.mem_cons_self)]
    exact marks_not fun z => h (List.mem_cons_of_mem _ z)
theorem marks_in {x : Str} : ∀ {ms : List Str}, x ∈ ms → valV (marks ms) (.inr x : Key) = some (.bl true)
  | m :: ms, h => by
    show valV ((.inr m, .bl true) :: marks ms) (.inr x : Key) = _
    by_cases e : m = x
    · exact valV_pos (p := ((.inr m : Key), V.bl true)) (by rw [e])
    · rw [valV_neg fun z => e (by injection z)]
      exact marks_in ((List.mem_cons.mp h).resolve_left fun z => e z.symm)
theorem marks_put {x : Str} {ms : List Str} (h : x ∉ ms) : putK (marks ms) (.inr x) (.bl true) = marks (ms ++ [x]) := by
  rw [putK_new _ (marks_not h)]
  unfold marks
  rw [List.map_append]
  rfl
theorem marks_put_in {x : Str} {ms : List Str} (h : x ∈ ms) : putK (marks ms) (.inr x) (.bl true) = marks ms := by
  unfold putK
  rw [if_pos (by rw [valV_any, marks_in h]; rfl)]
  unfold marks
  rw [List.map_map]
  refine List.map_congr_left fun y _ => ?_
  show (if ((.inr y : Key), V.bl true).1 = (.inr x : Key) then ((.inr y : Key), V.bl true) else ((.inr y : Key), V.bl true)) = _
  split <;> rfl
theorem marks_drop {x : Str} {ms : List Str} : dropK (marks ms) (.inr x : Key) = marks (ms.filter fun y => decide (y ≠ x)) := by
  unfold dropK marks
  rw [List.filter_map]
  congr 1
  refine List.filter_congr fun y _ => ?_
  simp
/-- a list or a tuple of these texts -/
abbrev TxS (K : PySem.W.Frag) (H : Hp) (a : Addr) (ns : List Str) : Prop := Seq K H a (ns.map V.str)
theorem at_map {α β : Type} {f : α → β} {xs : List α} {i : Nat} {y : β} (h : (xs.map f)[i]? = some y) : ∃ x, xs[i]? = some x ∧ y = f x := by
  rw [List.getElem?_map] at h
  cases e : xs[i]? with
  | none => rw [e] at h; cases h
  | some x => rw [e] at h; exact ⟨x, rfl, (Option.some.inj h).symm⟩
theorem seq_ty {K : PySem.W.Frag} {H : Hp} {a : Addr} {xs : List V} (h : Seq K H a xs) : ∃ n, Ty K H (.ref a) n ∧ isSeqN n = true ∧ n ≠ "str" := by
  rcases h with ((h | ⟨o, h⟩) | ⟨o, its, n, hk, hc, _⟩) | ((h | ⟨o, h⟩) | ⟨o, its, n, hk, hc, _⟩)
  · exact ⟨"list", ⟨.base (.lst h), by unfold K7; simp⟩, by decide +kernel, by decide +kernel⟩
  · exact ⟨"list", ⟨.base (.frz h), by unfold K7; simp⟩, by decide +kernel, by decide +kernel⟩
  · exact ⟨"list", ⟨.kList hk hc, by unfold K7; simp⟩, by decide +kernel, by decide +kernel⟩
  · exact ⟨"tuple", ⟨.base (.tup h), by unfold K7; simp⟩, by decide +kernel, by decide +kernel⟩
  · exact ⟨"tuple", ⟨.fTuple h, by unfold K7; simp⟩, by decide +kernel, by decide +kernel⟩
  · exact ⟨"tuple", ⟨.kTuple hk hc, by unfold K7; simp⟩, by decide +kernel, by decide +kernel⟩
theorem sqT_same {K : PySem.W.Frag} {H H' : Hp} {a : Addr} {xs : List V} (s : Same H H') (h : SqT K H a xs) : SqT K H' a xs := by
  rcases h with (h | ⟨o, h⟩) | h
  · exact .inl (.inl (s _ _ h))
  · exact .inl (.inr ⟨o, s _ _ h⟩)
  · exact .inr h
theorem Seq.same {K : PySem.W.Frag} {H H' : Hp} {a : Addr} {xs : List V} (h : Seq K H a xs) (s : Same H H') : Seq K H' a xs := h.elim (fun z => .inl (s.seq z)) fun z => .inr (sqT_same s z)
theorem enumJ_of {K : PySem.W.Frag} {H : Hp} {a : Addr} {xs : List V} (hS : Seq K H a xs) :
    ∃ (J : It) (G : Hp → Prop), EnJ K H a xs J ∧ Walk J xs.length G (YPair (fun i => some (.int (i : Nat))) (fun i => xs[i]?)) ∧ ∀ H', Same H H' → G H' :=
  hS.elim (fun z => ⟨_, _, .inl ⟨z, rfl⟩, walk_enum, fun H' s => s.seq z⟩) fun z => ⟨_, _, .inr ⟨z, rfl⟩, walk_enumT, fun H' s => sqT_same s z⟩
theorem EnJ.same {K : PySem.W.Frag} {H H' : Hp} {a : Addr} {xs : List V} {J : It} (h : EnJ K H a xs J) (s : Same H H') : EnJ K H' a xs J := h.elim (fun z => .inl ⟨s.seq z.1, z.2⟩) fun z => .inr ⟨sqT_same s z.1, z.2⟩
theorem not_before {α : Type} {xs : List α} {i : Nat} {x : α} (h : xs.Nodup) (e : xs[i]? = some x) : x ∉ xs.take i := fun hm => by
  obtain ⟨j, hj, ej⟩ := List.mem_iff_getElem.mp hm
  rw [List.length_take] at hj
  have hi : i < xs.length := (List.getElem?_eq_some_iff.mp e).1
  rw [List.getElem_take] at ej
  have e2 : xs[i] = x := (List.getElem?_eq_some_iff.mp e).2
  have := (List.getElem_inj h (h₀ := by omega) (h₁ := hi)).mp (ej.trans e2.symm)
  omega
theorem take_snoc {α : Type} {xs : List α} {i : Nat} {x : α} (e : xs[i]? = some x) : xs.take (i + 1) = xs.take i ++ [x] := by
  rw [List.take_succ, e]
  rfl
section
variable {P : Program} {w : World} {K : PySem.W.Frag} {mg : Str → Option Value} {base : Heap}
/-- names, each unlike, pass -/
def spBadNameAt (K : PySem.W.Frag) : Sp := fun vs H Q _ => ∃ (a : Addr) (ns : List Str), vs = [.ref a] ∧ TxS K H a ns ∧ ns.Nodup ∧ (∀ x ∈ ns, nameB x = true ∧ x.length ≤ 1000) ∧ ns.length ≤ 1000 ∧ ∀ H', Same H H' → Q .non H'
theorem scBadNameAt : FnScope ["things", "seen", "at", "thing"] ["things"] (defScope sBadNameAt) := ⟨rfl, rfl, rfl, by decide +kernel, rfl, by decide +kernel, by decide +kernel⟩
theorem ok_bad_name_at {f fl fn : Addr} {fd fdl fdn : FuncData} (F : Fun K "bad_name_at" "bad_name_at" sBadNameAt f fd) (GL : FnOk P w K mg base CX0 1 fl fdl ["thing"] (spIsList K)) (GN : FnOk P w K mg base CX0 1 fn fdn ["thing"] (spIsName K))
    (bL : Binds K fdl ["thing"] []) (bN : Binds K fdn ["thing"] []) (kL : PySem.W.keepIn K (.ref fl) = true) (kN : PySem.W.keepIn K (.ref fn) = true) (mL : mg "is_list" = some (.ref fl)) (mN : mg "is_name" = some (.ref fn)) (me : mg "enumerate" = none) :
    FnOk P w K mg base CX0 2 f fd ["things"] (spBadNameAt K) := by
  refine F.ok scBadNameAt (fun vs H Q E h => ?_) (fun cdv A outer s H vs Q E hr h => ?_)
  · obtain ⟨a, ns, rfl, _⟩ := h
    rfl
  obtain ⟨a, ns, rfl, hS, hnd, hnm, hlen, q⟩ := h
  have hu := hu_of hr
  refine ⟨_, pss_cons (ps_if (pt_not (pt_val (pe_call GL hr rfl mL kL bL .nil pass0 (pa_cons (pv 0) pa_nil)))) (pss_one (ps_ret pe_int)) pss_nil)
    (pss_cons (ps_set (i := 1) scBadNameAt.nd rfl (Or.inl rfl) pe_dnewK)
    (pss_cons (ps_for PassesOwn.never rfl (pi_enumS rfl me (pa_cons (pv 0) pa_nil)) (pg_tup rfl (pgs_cons (pg_name (i := 2) scBadNameAt.nd rfl (Or.inl rfl)) (pgs_cons (pg_name (i := 3) scBadNameAt.nd rfl (Or.inl rfl)) pgs_nil)))
      (pss_cons (ps_if (PW.pt (pw_or (pt_not (pt_val (pe_call GN hr rfl mN kN bN .nil pass0 (pa_cons (pv 3) pa_nil)))) (pw_or1 (pt_cmp (pc_din hu (pv 3) (pv 1)))))) (pss_one (ps_ret (pv 2))) pss_nil)
      (pss_one (ps_dput hu (pv 1) (pv 3) pe_bl rfl))))
    (pss_one (ps_ret pe_non)))), ?_⟩
  obtain ⟨n, hT, hn, _⟩ := seq_ty hS
  refine ⟨_, rfl, _, n, rfl, hT, fun H1 s1 => ⟨_, rfl, ?_⟩⟩
  rw [hn]
  refine (if_neg (by decide)).mpr ?_
  intro d hd
  obtain ⟨J, G, hJ, wk, hG⟩ := enumJ_of (Seq.same hS s1)
  rw [List.length_map] at wk
  refine ⟨_, rfl, a, ns.map V.str, J, rfl, EnJ.same hJ (same_new hd _), for_it wk (fun i σ' H' => ∃ u v : Option V, σ' = [some (.ref a), some (.ref d), u, v] ∧ Same H1 H' ∧ H' d = some (.dK (marks (ns.take i)))) ⟨none, none, rfl, same_new hd _, upd_same⟩ ?_ ?_ ?_⟩
  · rintro i σ' H' hi ⟨u, v, rfl, s2, hd2⟩
    exact hG H' s2
  · rintro i x σ' H2 H3 hi ⟨u, v, rfl, s2, hd2⟩ ⟨T, y, z, rfl, hT3, rfl, ey, ez⟩
    obtain ⟨c, hc, rfl⟩ := at_map ez
    cases ey
    have hcm : c ∈ ns := List.mem_of_getElem? hc
    have dT : (upd H2 T (.tup [.int (i : Nat), .str c])) d = some (.dK (marks (ns.take i))) := by rw [upd_ne (ne_of_none hd2 hT3)]; exact hd2
    have s3 : Same H1 (upd H2 T (.tup [.int (i : Nat), .str c])) := s2.trans (same_new hT3 _)
    refine ⟨T, _, rfl, SqT.of upd_same, rfl, _, _, rfl, _, _, rfl, rfl, ?_⟩
    refine ⟨_, rfl, .str c, true, rfl, .inl ⟨c, rfl, (hnm c hcm).2, (hnm c hcm).1.symm⟩, fun H4 s4 => ⟨_, rfl, ?_⟩⟩
    have d4 := s4 _ _ dT
    have hni := not_before hnd hc
    refine (if_neg (by decide)).mpr ?_
    have g4 : DGet H4 d (kV (.inr c)) none := by
      have z := DGet.k (k := .inr c) d4
      rw [marks_not hni] at z
      exact z
    refine ⟨_, rfl, _, rfl, d, none, rfl, g4, false, rfl, ?_⟩
    refine (if_neg (by decide)).mpr ?_
    have ln : (marks (ns.take i)).length < sizeLine := by
      rw [marks_len, List.length_take]
      exact small1000 (by omega)
    have p4 : DPut H4 d (.str c) (.bl true) (upd H4 d (.dK (marks (ns.take (i + 1))))) := by
      have z := DPut.k (v := .bl true) (k := .inr c) d4 ln
      rw [marks_put hni, ← take_snoc hc] at z
      exact z
    refine ⟨_, rfl, _, rfl, d, _, rfl, p4, _, _, rfl, fun b o e => ?_, upd_same⟩
    have e4 := s4 _ _ (s3 _ _ e)
    rw [upd_ne (ne_of_none e hd)]
    exact e4
  · rintro σ' H' ⟨u, v, rfl, s2, hd2⟩
    exact q H' (s1.trans s2)
end
end Rw
set_option Elab.async false
set_option linter.all false
set_option maxRecDepth 100000
set_option maxHeartbeats 4000000
namespace Rw
open PySem L2
/-- turns over a walk -/
theorem turns_it {J : It} {n : Nat} {G : Hp → Prop} {Y : Nat → Hp → V → Hp → Prop} {g : TG} {tt : TT} {tb : TB} {vs : List Nat} {σ : L2.St} {H1 : Hp} {Dn : Hp → Prop} (w : Walk J n G Y) (Pv : Nat → Hp → Prop) (h0 : Pv 0 H1) (hG : ∀ i H, i ≤ n → Pv i H → G H)
    (hs : ∀ i x H H', i < n → Pv i H → Y i H x H' → g x (wipe σ vs) H' fun σ2 H2 => wipe σ2 vs = wipe σ vs ∧ tt σ2 H2 fun b H3 => if b = true then tb σ2 H3 (Pv (i + 1)) else Pv (i + 1) H3) (hd : ∀ H, Pv n H → Dn H) :
    ∃ W : Nat → Nat → Hp → Prop, (∃ m, W 0 m H1) ∧ tTurns J g tt tb vs σ W Dn := by
  refine ⟨fun i m H => m = n - i ∧ i ≤ n ∧ Pv i H, ⟨n, rfl, Nat.zero_le _, h0⟩, ?_⟩
  rintro i m H ⟨rfl, hi, p⟩
  have q := hG i H hi p
  by_cases lt : i < n
  · exact .inr ⟨w.goes i H lt q, Pv (i + 1), fun H' p' => ⟨n - (i + 1), by omega, rfl, lt, p'⟩, fun x H' y => hs i x H H' lt p (w.yields i H x H' lt q y)⟩
  · have e : i = n := by omega
    subst e
    exact .inl ⟨w.stops H q, hd H p⟩
/-- what is none of the names, or is there already -/
def OddC (K : PySem.W.Frag) (H : Hp) (ns cs : List Str) (o : V) : Prop := (∃ n, Ty K H o n ∧ n ≠ "str") ∨ ∃ z, o = .str z ∧ (z ∉ ns ∨ z ∈ cs)
theorem OddC.same {K : PySem.W.Frag} {H H' : Hp} {ns cs : List Str} {o : V} (h : OddC K H ns cs o) (s : Same H H') : OddC K H' ns cs o := h.elim (fun ⟨n, t, e⟩ => .inl ⟨n, t.same s, e⟩) .inr
/-- what a choice out of names tells -/
inductive Chose (K : PySem.W.Frag) (H : Hp) (ns : List Str) : V → V → Prop where
  | none (v : V) (n : String) (h : Ty K H v n) (hn : isSeqN n = false) : Chose K H ns v (.int 0)
  | good (a : Addr) (cs : List Str) (h : Seq K H a (cs.map V.str)) (nd : cs.Nodup) (sub : ∀ x ∈ cs, x ∈ ns) : Chose K H ns (.ref a) .non
  | odd (a : Addr) (cs : List Str) (o : V) (more : List V) (h : Seq K H a (cs.map V.str ++ o :: more)) (nd : cs.Nodup) (sub : ∀ x ∈ cs, x ∈ ns) (ho : OddC K H ns cs o) : Chose K H ns (.ref a) (.int (cs.length : Nat))
section
variable {P : Program} {w : World} {K : PySem.W.Frag} {mg : Str → Option Value} {base : Heap}
def spBadChoiceAt (K : PySem.W.Frag) : Sp := fun vs H Q _ => ∃ (v r : V) (b : Addr) (ns : List Str), vs = [v, .ref b] ∧ SqL K H b (ns.map V.str) ∧ ns.Nodup ∧ ns.length ≤ 1000 ∧ Chose K H ns v r ∧ ∀ H', Same H H' → Q r H'
end
end Rw
set_option Elab.async false
set_option linter.all false
set_option maxRecDepth 100000
set_option maxHeartbeats 4000000
namespace Rw
open PySem L2
abbrev sIsUpper : Stmt := top 9
abbrev sCodeOf : Stmt := top 10
abbrev sUpperOf : Stmt := top 11
abbrev sTighter : Stmt := top 13
abbrev sCodeSum : Stmt := top 14
/-! ### codes -/
abbrev Code' := Option Int
def cv : Code' → V
  | none => .non
  | some c => .int c
def codeB (b : Bd) : Int := if b.2 = 1 then 2 * b.1 else 2 * b.1 + 1
def boundC (c : Int) : Bd := (c.fdiv 2, if c % 2 = 1 then 0 else 1)
def tightC : Code' → Code' → Code'
  | none, y => y
  | some a, none => some a
  | some a, some b => if a < b then some a else some b
def sumC : Code' → Code' → Code'
  | some a, some b => if a % 2 = 1 ∨ b % 2 = 1 then some (a + b - 1) else some (a + b)
  | _, _ => none
theorem rIx_seq {K : PySem.W.Frag} {H : Hp} {a : Addr} {xs : List V} {i : Int} {v : V} {Q : VK} (h : Seq K H a xs) (e : atI xs i = some v) (q : Q v H) : rIx K (.ref a) (.int i) H Q :=
  h.elim (fun z => .inl ⟨a, xs, _, _, rfl, rfl, z, e, q⟩) fun z => .inr (.inl ⟨a, xs, _, _, rfl, rfl, z, e, q⟩)
theorem word_in (s : Int) : inV (wordV s) [.str "upto", .str "below"] = true := by
  unfold wordV
  split <;> decide +kernel
section
variable {P : Program} {w : World} {K : PySem.W.Frag} {mg : Str → Option Value} {base : Heap}
def spIsUpper (K : PySem.W.Frag) : Sp := fun vs H Q _ => ∃ v : V, vs = [v] ∧ (v = .non ∨ ∃ (a : Addr) (n s : Int), v = .ref a ∧ Seq K H a [wordV s, .int n]) ∧ ∀ H', Same H H' → Q (.bl true) H'
theorem scIsUpper : FnScope ["thing"] ["thing"] (defScope sIsUpper) := ⟨rfl, rfl, rfl, by decide +kernel, rfl, by decide +kernel, by decide +kernel⟩
theorem ok_is_upper {f fl fi : Addr} {fd fdl fdi : FuncData} (F : Fun K "is_upper" "is_upper" sIsUpper f fd) (GL : FnOk P w K mg base CX0 1 fl fdl ["thing"] (spIsList K)) (GI : FnOk P w K mg base CX0 1 fi fdi ["thing"] (spIsInteger K))
    (bL : Binds K fdl ["thing"] []) (bI : Binds K fdi ["thing"] []) (kL : PySem.W.keepIn K (.ref fl) = true) (kI : PySem.W.keepIn K (.ref fi) = true) (mL : mg "is_list" = some (.ref fl)) (mI : mg "is_integer" = some (.ref fi)) (ml : mg "len" = none) :
    FnOk P w K mg base CX0 2 f fd ["thing"] (spIsUpper K) := by
  refine F.ok scIsUpper (fun vs H Q E h => ?_) (fun cdv A outer s H vs Q E hr h => ?_)
  · obtain ⟨v, rfl, _⟩ := h
    rfl
  obtain ⟨v, rfl, hv, q⟩ := h
  refine ⟨_, pss_cons (ps_if (pt_cmpR op_isN (pv 0) pe_non (nomark _)) (pss_one (ps_ret pe_bl)) pss_nil)
    (pss_cons (ps_if (PW.pt (pw_or (pt_not (pt_val (pe_call GL hr rfl mL kL bL .nil pass0 (pa_cons (pv 0) pa_nil)))) (pw_or1 (pt_cmpR op_ne (pe_callB call_len_seq rfl ml PySem.boot_len (pa_cons (pv 0) pa_nil)) pe_int (nomark _))))) (pss_one (ps_ret pe_bl)) pss_nil)
    (pss_one (ps_ret (pe_and (pe_cmpR op_in_seq (pe_ix ix_seq (pv 0) pe_int (fun _ _ => rfl)) (pe_tup (pa_cons pe_str (pa_cons pe_str pa_nil))) rfl)
      (pe_one (pe_call GI hr rfl mI kI bI .nil pass0 (pa_cons (pe_ix ix_seq (pv 0) pe_int (fun _ _ => rfl)) pa_nil))))))), ?_⟩
  rcases hv with rfl | ⟨a, n, sg, rfl, hS⟩
  · refine ⟨_, rfl, rfl, true, rfl, ?_⟩
    exact (if_pos rfl).mpr (q H (Same.refl H))
  · refine ⟨_, rfl, rfl, false, rfl, ?_⟩
    refine (if_neg (by decide)).mpr ?_
    obtain ⟨n', hT, hn, _⟩ := seq_ty hS
    refine ⟨_, rfl, .ref a, n', rfl, hT, fun H1 s1 => ⟨_, rfl, ?_⟩⟩
    rw [hn]
    refine (if_neg (by decide)).mpr ?_
    have hS1 := Seq.same hS s1
    have at0 : atI [wordV sg, .int n] 0 = some (wordV sg) := rfl
    have at1 : atI [wordV sg, .int n] 1 = some (.int n) := rfl
    refine ⟨_, rfl, a, _, rfl, hS1, rfl, _, rfl, ?_⟩
    refine (if_neg (by show ¬ (!decide (V.int ((2 : Nat) : Int) = V.int 2)) = true; decide)).mpr ?_
    refine ⟨_, rfl, rIx_seq hS1 at0 ?_⟩
    refine ⟨(by show 2 ≤ sizeLine; decide), fun p hp => ?_⟩
    have s2 : Same H1 (upd H1 p (.tup [.str "upto", .str "below"])) := same_new hp _
    refine ⟨p, _, rfl, .inr (SqT.of upd_same), by unfold wordV; rfl, rfl, true, by rw [word_in]; rfl, ?_⟩
    refine (if_pos rfl).mpr ?_
    refine ⟨_, rfl, rIx_seq (Seq.same hS1 s2) at1 ?_⟩
    refine ⟨.int n, "int", rfl, ⟨.base (.int n), by unfold K7; simp⟩, ?_⟩
    exact q _ (s1.trans s2)
end
end Rw
set_option Elab.async false
set_option linter.all false
set_option maxRecDepth 100000
set_option maxHeartbeats 4000000
namespace Rw
open PySem L2
section
variable {P : Program} {w : World} {K : PySem.W.Frag} {mg : Str → Option Value} {base : Heap}
def spCodeOf (K : PySem.W.Frag) : Sp := fun vs H Q _ => ∃ v : V, vs = [v] ∧ ((v = .non ∧ Q .non H) ∨ ∃ (a : Addr) (b : Bd), v = .ref a ∧ Seq K H a [wordV b.2, .int b.1] ∧ Q (.int (codeB b)) H)
theorem scCodeOf : FnScope ["bound"] ["bound"] (defScope sCodeOf) := ⟨rfl, rfl, rfl, by decide +kernel, rfl, by decide +kernel, by decide +kernel⟩
theorem ok_code_of {f : Addr} {fd : FuncData} (F : Fun K "code_of" "code_of" sCodeOf f fd) : FnOk P w K mg base CX0 1 f fd ["bound"] (spCodeOf K) := by
  refine F.ok scCodeOf (fun vs H Q E h => ?_) (fun cdv A outer s H vs Q E hr h => ?_)
  · obtain ⟨v, rfl, _⟩ := h
    rfl
  obtain ⟨v, rfl, hv⟩ := h
  refine ⟨_, pss_cons (ps_if (pt_cmpR op_isN (pv 0) pe_non (nomark _)) (pss_one (ps_ret pe_non)) pss_nil)
    (pss_cons (ps_if (pt_cmpR op_eq (pe_ix ix_seq (pv 0) pe_int (fun _ _ => rfl)) pe_str (nomark _)) (pss_one (ps_ret (pe_op op_add (pe_op op_mul pe_int (pe_ix ix_seq (pv 0) pe_int (fun _ _ => rfl))) pe_int))) pss_nil)
    (pss_one (ps_ret (pe_op op_mul pe_int (pe_ix ix_seq (pv 0) pe_int (fun _ _ => rfl)))))), ?_⟩
  rcases hv with ⟨rfl, q⟩ | ⟨a, ⟨n, sg⟩, rfl, hS, q⟩
  · refine ⟨_, rfl, rfl, true, rfl, ?_⟩
    exact (if_pos rfl).mpr q
  · have at0 : atI [wordV sg, .int n] 0 = some (wordV sg) := rfl
    have at1 : atI [wordV sg, .int n] 1 = some (.int n) := rfl
    refine ⟨_, rfl, rfl, false, rfl, ?_⟩
    refine (if_neg (by decide)).mpr ?_
    refine ⟨_, rfl, rIx_seq hS at0 ?_⟩
    refine ⟨by unfold wordV; rfl, _, rfl, ?_⟩
    unfold codeB at q
    refine ite2 (fun c => ?_) (fun c => ?_)
    · have hs : ¬ sg = 1 := fun e => by
        rw [e] at c
        revert c
        decide +kernel
      rw [if_neg hs] at q
      refine ⟨_, rfl, rIx_seq hS at1 ?_⟩
      exact ⟨_, _, rfl, rfl, .inl (by decide), _, _, rfl, rfl, q⟩
    · have hs : sg = 1 := by
        by_cases e : sg = 1
        · exact e
        · refine absurd ?_ c
          unfold wordV
          rw [if_neg e]
          decide +kernel
      rw [if_pos hs] at q
      refine ⟨_, rfl, rIx_seq hS at1 ?_⟩
      exact ⟨_, _, rfl, rfl, .inl (by decide), q⟩
def spUpperOf : Sp := fun vs H Q _ => ∃ c : Code', vs = [cv c] ∧ (c = none → Q .non H) ∧ ∀ k, c = some k → ∀ r, H r = none → Q (.ref r) (upd H r (.tup [wordV (boundC k).2, .int (boundC k).1]))
theorem scUpperOf : FnScope ["code"] ["code"] (defScope sUpperOf) := ⟨rfl, rfl, rfl, by decide +kernel, rfl, by decide +kernel, by decide +kernel⟩
theorem ok_upper_of {f : Addr} {fd : FuncData} (F : Fun K "upper_of" "upper_of" sUpperOf f fd) : FnOk P w K mg base CX0 1 f fd ["code"] spUpperOf := by
  refine F.ok scUpperOf (fun vs H Q E h => ?_) (fun cdv A outer s H vs Q E hr h => ?_)
  · obtain ⟨v, rfl, _⟩ := h
    rfl
  obtain ⟨c, rfl, q0, q1⟩ := h
  refine ⟨_, pss_cons (ps_if (pt_cmpR op_isN (pv 0) pe_non (nomark _)) (pss_one (ps_ret pe_non)) pss_nil)
    (pss_cons (ps_if (pt_cmpR op_eq (pe_op op_mod (pv 0) pe_int) pe_int (nomark _)) (pss_one (ps_ret (pe_tup (pa_cons pe_str (pa_cons (pe_op op_fdivN (pv 0) pe_int) pa_nil))))) pss_nil)
    (pss_one (ps_ret (pe_tup (pa_cons pe_str (pa_cons (pe_op op_fdivN (pv 0) pe_int) pa_nil)))))), ?_⟩
  cases c with
  | none =>
    refine ⟨_, rfl, rfl, true, rfl, ?_⟩
    exact (if_pos rfl).mpr (q0 rfl)
  | some k =>
    have q1 := q1 k rfl
    refine ⟨_, rfl, rfl, false, rfl, ?_⟩
    refine (if_neg (by decide)).mpr ?_
    refine ⟨_, rfl, _, _, rfl, rfl, (by show (0 : Int) < 2; decide), rfl, _, rfl, ?_⟩
    unfold boundC wordV at q1
    dsimp only at q1
    refine ite2 (fun e => ?_) (fun e => ?_)
    · have hk : k % 2 = 1 := by
        have z := of_decide_eq_true e
        injection z
      rw [if_pos hk, if_neg (show ¬ (0 : Int) = 1 by decide)] at q1
      exact ⟨_, rfl, _, _, rfl, rfl, ⟨by decide, by decide⟩, (by show 2 ≤ sizeLine; decide), fun p hp => q1 p hp⟩
    · have hk : ¬ k % 2 = 1 := fun z => e (decide_eq_true (show V.int (k % 2) = V.int 1 by rw [z]))
      rw [if_neg hk, if_pos rfl] at q1
      exact ⟨_, rfl, _, _, rfl, rfl, ⟨by decide, by decide⟩, (by show 2 ≤ sizeLine; decide), fun p hp => q1 p hp⟩
def spTighter : Sp := fun vs H Q _ => ∃ x y : Code', vs = [cv x, cv y] ∧ Q (cv (tightC x y)) H
theorem scTighter : FnScope ["one", "other"] ["one", "other"] (defScope sTighter) := ⟨rfl, rfl, rfl, by decide +kernel, rfl, by decide +kernel, by decide +kernel⟩
theorem ok_tighter {f : Addr} {fd : FuncData} (F : Fun K "tighter_code" "tighter_code" sTighter f fd) : FnOk P w K mg base CX0 1 f fd ["one", "other"] spTighter := by
  refine F.ok scTighter (fun vs H Q E h => ?_) (fun cdv A outer s H vs Q E hr h => ?_)
  · obtain ⟨x, y, rfl, _⟩ := h
    rfl
  obtain ⟨x, y, rfl, q⟩ := h
  refine ⟨_, pss_cons (ps_if (pt_cmpR op_isN (pv 0) pe_non (nomark _)) (pss_one (ps_ret (pv 1))) pss_nil)
    (pss_cons (ps_if (PW.pt (pw_or (pt_cmpR op_isN (pv 1) pe_non (nomark _)) (pw_or1 (pt_cmpR op_lt (pv 0) (pv 1) (nomark _))))) (pss_one (ps_ret (pv 0))) pss_nil)
    (pss_one (ps_ret (pv 1)))), ?_⟩
  cases x with
  | none => exact ⟨_, rfl, rfl, true, rfl, (if_pos rfl).mpr ⟨_, rfl, q⟩⟩
  | some a =>
    refine ⟨_, rfl, rfl, false, rfl, (if_neg (by decide)).mpr ?_⟩
    cases y with
    | none => exact ⟨_, rfl, rfl, true, rfl, (if_pos rfl).mpr ((if_pos rfl).mpr ⟨_, rfl, q⟩)⟩
    | some b =>
      refine ⟨_, rfl, rfl, false, rfl, (if_neg (by decide)).mpr ?_⟩
      refine ⟨_, rfl, _, rfl, _, _, rfl, rfl, _, rfl, ?_⟩
      have q : Q (cv (if a < b then some a else some b)) H := q
      refine ite2 (fun e => ?_) (fun e => ?_)
      · rw [if_pos (of_decide_eq_true e)] at q
        exact ⟨_, rfl, q⟩
      · rw [if_neg fun z => e (decide_eq_true z)] at q
        exact ⟨_, rfl, q⟩
def spCodeSum : Sp := fun vs H Q _ => ∃ x y : Code', vs = [cv x, cv y] ∧ Q (cv (sumC x y)) H
theorem scCodeSum : FnScope ["one", "other"] ["one", "other"] (defScope sCodeSum) := ⟨rfl, rfl, rfl, by decide +kernel, rfl, by decide +kernel, by decide +kernel⟩
theorem ok_code_sum {f : Addr} {fd : FuncData} (F : Fun K "code_sum" "code_sum" sCodeSum f fd) : FnOk P w K mg base CX0 1 f fd ["one", "other"] spCodeSum := by
  refine F.ok scCodeSum (fun vs H Q E h => ?_) (fun cdv A outer s H vs Q E hr h => ?_)
  · obtain ⟨x, y, rfl, _⟩ := h
    rfl
  obtain ⟨x, y, rfl, q⟩ := h
  refine ⟨_, pss_cons (ps_if (PW.pt (pw_or (pt_cmpR op_isN (pv 0) pe_non (nomark _)) (pw_or1 (pt_cmpR op_isN (pv 1) pe_non (nomark _))))) (pss_one (ps_ret pe_non)) pss_nil)
    (pss_cons (ps_if (PW.pt (pw_or (pt_cmpR op_eq (pe_op op_mod (pv 0) pe_int) pe_int (nomark _)) (pw_or1 (pt_cmpR op_eq (pe_op op_mod (pv 1) pe_int) pe_int (nomark _))))) (pss_one (ps_ret (pe_op op_sub (pe_op op_add (pv 0) (pv 1)) pe_int))) pss_nil)
    (pss_one (ps_ret (pe_op op_add (pv 0) (pv 1))))), ?_⟩
  cases x with
  | none => exact ⟨_, rfl, rfl, true, rfl, (if_pos rfl).mpr ((if_pos rfl).mpr q)⟩
  | some a =>
    refine ⟨_, rfl, rfl, false, rfl, (if_neg (by decide)).mpr ?_⟩
    cases y with
    | none => exact ⟨_, rfl, rfl, true, rfl, (if_pos rfl).mpr q⟩
    | some b =>
      refine ⟨_, rfl, rfl, false, rfl, (if_neg (by decide)).mpr ?_⟩
      have q : Q (cv (if a % 2 = 1 ∨ b % 2 = 1 then some (a + b - 1) else some (a + b))) H := q
      refine ⟨_, rfl, _, _, rfl, rfl, (by show (0 : Int) < 2; decide), rfl, _, rfl, ?_⟩
      refine ite2 (fun e => ?_) (fun e => ?_)
      · have ha : a % 2 = 1 := by
          have z := of_decide_eq_true e
          injection z
        rw [if_pos (.inl ha)] at q
        refine (if_pos rfl).mpr ?_
        exact ⟨_, rfl, _, rfl, _, _, rfl, rfl, _, _, rfl, rfl, q⟩
      · have ha : ¬ a % 2 = 1 := fun z => e (decide_eq_true (show V.int (a % 2) = V.int 1 by rw [z]))
        refine ⟨_, rfl, _, _, rfl, rfl, (by show (0 : Int) < 2; decide), rfl, _, rfl, ?_⟩
        refine ite2 (fun e => ?_) (fun e => ?_)
        · have hb : b % 2 = 1 := by
            have z := of_decide_eq_true e
            injection z
          rw [if_pos (.inr hb)] at q
          exact ⟨_, rfl, _, rfl, _, _, rfl, rfl, _, _, rfl, rfl, q⟩
        · have hb : ¬ b % 2 = 1 := fun z => e (decide_eq_true (show V.int (b % 2) = V.int 1 by rw [z]))
          rw [if_neg (fun z => z.elim ha hb)] at q
          exact ⟨_, rfl, _, rfl, _, _, rfl, rfl, q⟩
end
end Rw
set_option Elab.async false
set_option linter.all false
set_option maxRecDepth 100000
set_option maxHeartbeats 4000000
namespace Rw
open PySem L2
abbrev sIsSpot : Stmt := top 25
abbrev sIsSpotPair : Stmt := top 26
abbrev sOrdered : Stmt := top 27
abbrev spots (ns : List Str) : List Str := ("" : Str) :: ns
theorem inV_str {z : Str} : ∀ {ns : List Str}, inV (.str z) (ns.map V.str) = decide (z ∈ ns)
  | [] => by simp [inV]
  | n :: ns => by
    have ih := inV_str (z := z) (ns := ns)
    unfold inV at ih ⊢
    rw [List.map_cons, List.any_cons, ih]
    have e : eqV (.str n) (.str z) = decide (n = z) := rfl
    rw [e, Bool.eq_iff_iff]
    simp only [Bool.or_eq_true, decide_eq_true_eq, List.mem_cons]
    exact ⟨fun h => h.imp Eq.symm id, fun h => h.imp Eq.symm id⟩
theorem flat_strs {ns : List Str} : (ns.map V.str).all flatV = true := by
  rw [List.all_map]
  exact List.all_eq_true.mpr fun _ _ => rfl
section
variable {P : Program} {w : World} {K : PySem.W.Frag} {mg : Str → Option Value} {base : Heap}
def spIsSpot (K : PySem.W.Frag) : Sp := fun vs H Q _ => ∃ (l : Addr) (ns : List Str) (z : Str), vs = [.ref l, .str z] ∧ SqL K H l (ns.map V.str) ∧ Q (.bl (decide (z ∈ spots ns))) H
theorem scIsSpot : FnScope ["names", "thing"] ["names", "thing"] (defScope sIsSpot) := ⟨rfl, rfl, rfl, by decide +kernel, rfl, by decide +kernel, by decide +kernel⟩
theorem ok_is_spot {f : Addr} {fd : FuncData} (F : Fun K "is_spot" "is_spot" sIsSpot f fd) (mi : mg "isinstance" = none) (m1 : mg "str" = none) : FnOk P w K mg base CX0 1 f fd ["names", "thing"] (spIsSpot K) := by
  refine F.ok scIsSpot (fun vs H Q E h => ?_) (fun cdv A outer s H vs Q E hr h => ?_)
  · obtain ⟨l, ns, z, rfl, _⟩ := h
    rfl
  obtain ⟨l, ns, z, rfl, hS, q⟩ := h
  refine ⟨_, pss_one (ps_ret (pe_and (pe_callB call_isi rfl mi (by decide +kernel) (pa_cons (pv 1) (pa_cons (pe_bltn (v := .ty "str") rfl m1 (by decide +kernel) rfl) pa_nil)))
    (pe_one (pe_or (pe_cmpR op_eq (pv 1) pe_str (nomark _)) (pe_one (pe_cmpR op_in_seq (pv 1) (pv 0) rfl)))))), ?_⟩
  have k1 : PySem.W.kitOne K (.type "str") (.type "str") = some true := kit_ty (by decide +kernel)
  refine ⟨_, rfl, .str z, .ty "str", _, _, true, rfl, ClsV.ty "str", .base (.str z), k1, true, rfl, ?_⟩
  refine (if_pos rfl).mpr ?_
  refine ⟨_, rfl, rfl, _, rfl, ?_⟩
  refine ite2 (fun c => ?_) (fun c => ?_)
  · have e : z = "" := by
      have z1 := of_decide_eq_true c
      injection z1
    subst e
    have y : decide (("" : Str) ∈ spots ns) = true := decide_eq_true List.mem_cons_self
    rw [y] at q
    exact q
  · have e : ¬ z = "" := fun e => c (decide_eq_true (by rw [e]))
    refine ⟨_, rfl, _, rfl, l, _, rfl, .inl hS, rfl, flat_strs, ?_⟩
    rw [if_neg Bool.false_ne_true, inV_str]
    have y : decide (z ∈ spots ns) = decide (z ∈ ns) := by
      rw [Bool.eq_iff_iff]
      simp only [decide_eq_true_eq, List.mem_cons]
      exact ⟨fun h => h.resolve_left e, .inr⟩
    rw [y] at q
    exact q
/-- a pair of unlike spots -/
def spIsSpotPair (K : PySem.W.Frag) : Sp := fun vs H Q _ => ∃ (l a : Addr) (ns : List Str) (p : Pr), vs = [.ref l, .ref a] ∧ SqL K H l (ns.map V.str) ∧ H a = some (.tup [.str p.1, .str p.2]) ∧ p.1 ∈ spots ns ∧ p.2 ∈ spots ns ∧ p.1 ≠ p.2 ∧ Q (.bl true) H
theorem scIsSpotPair : FnScope ["names", "thing"] ["names", "thing"] (defScope sIsSpotPair) := ⟨rfl, rfl, rfl, by decide +kernel, rfl, by decide +kernel, by decide +kernel⟩
theorem ok_is_spot_pair {f fs : Addr} {fd fds : FuncData} (F : Fun K "is_spot_pair" "is_spot_pair" sIsSpotPair f fd) (GS : FnOk P w K mg base CX0 1 fs fds ["names", "thing"] (spIsSpot K)) (bS : Binds K fds ["names", "thing"] []) (kS : PySem.W.keepIn K (.ref fs) = true) (mS : mg "is_spot" = some (.ref fs))
    (mi : mg "isinstance" = none) (m1 : mg "tuple" = none) (ml : mg "len" = none) : FnOk P w K mg base CX0 2 f fd ["names", "thing"] (spIsSpotPair K) := by
  refine F.ok scIsSpotPair (fun vs H Q E h => ?_) (fun cdv A outer s H vs Q E hr h => ?_)
  · obtain ⟨l, a, ns, p, rfl, _⟩ := h
    rfl
  obtain ⟨l, a, ns, p, rfl, hS, ha, h1, h2, hne, q⟩ := h
  refine ⟨_, pss_cons (ps_if (PW.pt (pw_or (pt_not (pt_val (pe_callB call_isi rfl mi (by decide +kernel) (pa_cons (pv 1) (pa_cons (pe_bltn (v := .ty "tuple") rfl m1 (by decide +kernel) rfl) pa_nil))))) (pw_or1 (pt_cmpR op_ne (pe_callB call_len_seq rfl ml PySem.boot_len (pa_cons (pv 1) pa_nil)) pe_int (nomark _))))) pss_never pss_nil)
    (pss_one (ps_ret (pe_and (pe_call GS hr rfl mS kS bS .nil pass0 (pa_cons (pv 0) (pa_cons (pe_ix ix_tup (pv 1) pe_int (fun _ _ => rfl)) pa_nil)))
      (pe_and (pe_call GS hr rfl mS kS bS .nil pass0 (pa_cons (pv 0) (pa_cons (pe_ix ix_tup (pv 1) pe_int (fun _ _ => rfl)) pa_nil)))
      (pe_one (pe_cmpR op_ne (pe_ix ix_tup (pv 1) pe_int (fun _ _ => rfl)) (pe_ix ix_tup (pv 1) pe_int (fun _ _ => rfl)) (nomark _))))))), ?_⟩
  have k1 : PySem.W.kitOne K (.type "tuple") (.type "tuple") = some true := kit_ty (by decide +kernel)
  have at0 : atI [V.str p.1, .str p.2] 0 = some (.str p.1) := rfl
  have at1 : atI [V.str p.1, .str p.2] 1 = some (.str p.2) := rfl
  have hT : SqT K H a [.str p.1, .str p.2] := SqT.of ha
  refine ⟨_, rfl, .ref a, .ty "tuple", _, _, true, rfl, ClsV.ty "tuple", .base (.tup ha), k1, true, rfl, ?_⟩
  refine (if_neg (by decide)).mpr ?_
  refine ⟨_, rfl, a, _, rfl, .inr hT, rfl, _, rfl, ?_⟩
  refine (if_neg (by show ¬ (!decide (V.int ((2 : Nat) : Int) = V.int 2)) = true; decide)).mpr ?_
  refine ⟨_, rfl, _, rfl, a, _, _, _, rfl, rfl, hT, at0, ?_⟩
  refine ⟨l, ns, p.1, rfl, hS, true, by rw [decide_eq_true h1], ?_⟩
  refine (if_pos rfl).mpr ?_
  refine ⟨_, rfl, _, rfl, a, _, _, _, rfl, rfl, hT, at1, ?_⟩
  refine ⟨l, ns, p.2, rfl, hS, true, by rw [decide_eq_true h2], ?_⟩
  refine (if_pos rfl).mpr ?_
  refine ⟨_, rfl, a, _, _, _, rfl, rfl, hT, at0, _, rfl, a, _, _, _, rfl, rfl, hT, at1, rfl, ?_⟩
  rw [decide_eq_false (show ¬ V.str p.1 = V.str p.2 from fun e => hne (by injection e))]
  exact q
end
end Rw
set_option Elab.async false
set_option linter.all false
set_option maxRecDepth 100000
set_option maxHeartbeats 4000000
namespace Rw
open PySem L2
/-- turns over a walk, whatever is done in one -/
theorem walk_turns {J : It} {n : Nat} {G : Hp → Prop} {Y : Nat → Hp → V → Hp → Prop} {H1 : Hp} {Dn : Hp → Prop} {Body : V → Hp → (Hp → Prop) → Prop} (w : Walk J n G Y) (Pv : Nat → Hp → Prop) (h0 : Pv 0 H1) (hG : ∀ i H, i ≤ n → Pv i H → G H)
    (hs : ∀ i x H H', i < n → Pv i H → Y i H x H' → Body x H' (Pv (i + 1))) (hd : ∀ H, Pv n H → Dn H) :
    ∃ W : Nat → Nat → Hp → Prop, (∃ m, W 0 m H1) ∧ ∀ i m H, W i m H → (J.stop i H ∧ Dn H) ∨ (J.go i H ∧ ∃ Nx : Hp → Prop, (∀ H', Nx H' → ∃ m', m' < m ∧ W (i + 1) m' H') ∧ ∀ x H', J.yld i H x H' → Body x H' Nx) := by
  refine ⟨fun i m H => m = n - i ∧ i ≤ n ∧ Pv i H, ⟨n, rfl, Nat.zero_le _, h0⟩, ?_⟩
  rintro i m H ⟨rfl, hi, p⟩
  have q := hG i H hi p
  by_cases lt : i < n
  · exact .inr ⟨w.goes i H lt q, Pv (i + 1), fun H' p' => ⟨n - (i + 1), by omega, rfl, lt, p'⟩, fun x H' y => hs i x H H' lt p (w.yields i H x H' lt q y)⟩
  · have e : i = n := by omega
    subst e
    exact .inl ⟨w.stops H q, hd H p⟩
/-- a bound as it is handed: None, a tuple or a list -/
def RO (K : PySem.W.Frag) : Hp → V → Option Bd → Prop := fun H v b => (b = none ∧ v = .non) ∨ ∃ (bd : Bd) (a : Addr), b = some bd ∧ v = .ref a ∧ Seq K H a [wordV bd.2, .int bd.1]
/-- .. as it is kept: a tuple -/
def RW (K : PySem.W.Frag) : Hp → V → Bd → Prop := fun H v bd => ∃ a, v = .ref a ∧ SqT K H a [wordV bd.2, .int bd.1]
theorem RW.same {K : PySem.W.Frag} {H H' : Hp} {v : V} {b : Bd} (h : RW K H v b) (s : Same H H') : RW K H' v b := by
  obtain ⟨a, e, h⟩ := h
  exact ⟨a, e, sqT_same s h⟩
theorem RO.same {K : PySem.W.Frag} {H H' : Hp} {v : V} {b : Option Bd} (h : RO K H v b) (s : Same H H') : RO K H' v b := by
  rcases h with h | ⟨bd, a, e1, e2, h⟩
  · exact .inl h
  · exact .inr ⟨bd, a, e1, e2, Seq.same h s⟩
/-- all but d is as it was, and d is locked -/
structure Lk (H H' : Hp) (d : Addr) (od : Obj) (u : HO) : Prop where
  keep : ∀ b o, H b = some o → b ≠ d → H' b = some o
  at' : H' d = some (.frz od u)
theorem Lk.new {H H' : Hp} {d p : Addr} {od : Obj} {u o : HO} (h : Lk H H' d od u) (hp : H' p = none) : Lk H (upd H' p o) d od u :=
  ⟨fun b x e n => by rw [upd_ne (ne_of_none (h.keep b x e n) hp)]; exact h.keep b x e n, by rw [upd_ne (ne_of_none h.at' hp)]; exact h.at'⟩
theorem Lk.same {H H' H'' : Hp} {d : Addr} {od : Obj} {u : HO} (h : Lk H H' d od u) (s : Same H' H'') : Lk H H'' d od u := ⟨fun b x e n => s _ _ (h.keep b x e n), s _ _ h.at'⟩
theorem Lk.first {H : Hp} {d : Addr} {od : Obj} {u : HO} : Lk H (upd H d (.frz od u)) d od u := ⟨fun b x e n => by rw [upd_ne n]; exact e, upd_same⟩
theorem Lk.back {H H' : Hp} {d : Addr} {od : Obj} {u : HO} (h : Lk H H' d od u) (e : H d = some u) : Same H (upd H' d u) := fun b o eb => by
  by_cases n : b = d
  · subst n
    rw [e] at eb
    cases eb
    exact upd_same
  · rw [upd_ne n]
    exact h.keep b o eb n
theorem Lk.sqL {K : PySem.W.Frag} {H H' : Hp} {d a : Addr} {od : Obj} {kvs : List (List Key × V)} {xs : List V} (h : Lk H H' d od (.dT kvs)) (hd : H d = some (.dT kvs)) (hS : SqL K H a xs) : SqL K H' a xs := by
  rcases hS with (h1 | ⟨o, h1⟩) | h1
  · exact .inl (.inl (h.keep _ _ h1 (ne_of h1 hd fun z => nomatch z)))
  · exact .inl (.inr ⟨o, h.keep _ _ h1 (ne_of h1 hd fun z => nomatch z)⟩)
  · exact .inr h1
theorem Lk.sqT {K : PySem.W.Frag} {H H' : Hp} {d a : Addr} {od : Obj} {kvs : List (List Key × V)} {xs : List V} (h : Lk H H' d od (.dT kvs)) (hd : H d = some (.dT kvs)) (hS : SqT K H a xs) : SqT K H' a xs := by
  rcases hS with (h1 | ⟨o, h1⟩) | h1
  · exact .inl (.inl (h.keep _ _ h1 (ne_of h1 hd fun z => nomatch z)))
  · exact .inl (.inr ⟨o, h.keep _ _ h1 (ne_of h1 hd fun z => nomatch z)⟩)
  · exact .inr h1
theorem Lk.RO {K : PySem.W.Frag} {H H' : Hp} {d : Addr} {od : Obj} {kvs : List (List Key × V)} {v : V} {b : Option Bd} (h : Lk H H' d od (.dT kvs)) (hd : H d = some (.dT kvs)) (r : Rw.RO K H v b) : Rw.RO K H' v b := by
  rcases r with r | ⟨bd, a, e1, e2, r⟩
  · exact .inl r
  · exact .inr ⟨bd, a, e1, e2, r.elim (fun z => .inl (h.sqL hd z)) fun z => .inr (h.sqT hd z)⟩
/-- all pairs of the one with the other, in order -/
def crossP (ms ns : List Str) : List Pr := ms.flatMap fun a => ns.map fun b => (a, b)
theorem crossP_len (ms ns : List Str) : (crossP ms ns).length = ms.length * ns.length := by
  unfold crossP
  induction ms with
  | nil => simp
  | cons a ms ih => rw [List.flatMap_cons, List.length_append, List.length_map, ih, List.length_cons, Nat.succ_mul, Nat.add_comm]
theorem crossP_nd {ms ns : List Str} (h1 : ms.Nodup) (h2 : ns.Nodup) : (crossP ms ns).Nodup := by
  unfold crossP
  induction ms with
  | nil => exact List.nodup_nil
  | cons a ms ih =>
    obtain ⟨ha, hm⟩ := List.nodup_cons.mp h1
    rw [List.flatMap_cons]
    refine List.nodup_append.mpr ⟨?_, ih hm, fun x hx y hy e => ?_⟩
    · exact List.Pairwise.map _ (fun b c hbc e => hbc (by injection e)) h2
    · subst e
      obtain ⟨b, _, rfl⟩ := List.mem_map.mp hx
      obtain ⟨a', ha', h3⟩ := List.mem_flatMap.mp hy
      obtain ⟨b', _, e⟩ := List.mem_map.mp h3
      injection e with e1 _
      exact ha (e1 ▸ ha')
theorem mem_crossP {ms ns : List Str} {p : Pr} : p ∈ crossP ms ns ↔ p.1 ∈ ms ∧ p.2 ∈ ns := by
  unfold crossP
  constructor
  · intro h
    obtain ⟨a, ha, h⟩ := List.mem_flatMap.mp h
    obtain ⟨b, hb, rfl⟩ := List.mem_map.mp h
    exact ⟨ha, hb⟩
  · intro ⟨h1, h2⟩
    exact List.mem_flatMap.mpr ⟨p.1, h1, List.mem_map.mpr ⟨p.2, h2, rfl⟩⟩
/-- what is kept of bounds that were handed, in order -/
def keptB (m : List (Pr × Option Bd)) (ps : List Pr) : List (Pr × Bd) := ps.filterMap fun p => ((look m p).getD none).map fun b => (p, b)
theorem look_mem {β : Type} {m : List (Pr × β)} {e : Pr × β} (h : e ∈ m) : look m e.1 ≠ none := fun z => by
  induction m with
  | nil => cases h
  | cons x m ih =>
    by_cases c : x.1 = e.1
    · rw [look_pos c] at z
      cases z
    · rw [look_neg c] at z
      rcases List.mem_cons.mp h with h | h
      · exact c (by rw [h])
      · exact ih h z
theorem look_none {β : Type} {m : List (Pr × β)} {q : Pr} (h : ∀ e ∈ m, e.1 ≠ q) : look m q = none := by
  induction m with
  | nil => rfl
  | cons x m ih =>
    rw [look_neg (h x List.mem_cons_self)]
    exact ih fun e he => h e (List.mem_cons_of_mem _ he)
theorem DT.put {β : Type} {R : Hp → V → β → Prop} {H : Hp} {d a : Addr} {m : List (Pr × β)} {q : Pr} {v : V} {b : β} (h : DT R H d m) (ha : IsPr H a q) (hn : look m q = none) (hl : m.length < sizeLine) (rv : R H v b)
    (st : ∀ o kvs v b, H d = some (.dT kvs) → R H v b → R (upd H d o) v b) : ∃ o, DPut H d (.ref a) v (upd H d o) ∧ DT R (upd H d o) d (m ++ [(q, b)]) := by
  obtain ⟨kvs, e, r⟩ := h
  have hz : kvs.length < sizeLine := by rw [← Paired.length r]; exact hl
  have hk : valV kvs (key2 q) = none := by
    rcases pl_look (R := fun v b => R H v b) q r with ⟨_, h2⟩ | ⟨b', v', h1, _⟩
    · exact h2
    · rw [hn] at h1
      cases h1
  refine ⟨.dT (putK kvs (key2 q) v), DPut.t e ha hz, putK kvs (key2 q) v, upd_same, ?_⟩
  rw [putK_new _ hk]
  exact Rw.Paired.snoc (Rw.Paired.imp r fun x y _ z => ⟨z.1, st _ _ _ _ e z.2⟩) ⟨rfl, st _ _ _ _ e rv⟩
theorem RW.put {K : PySem.W.Frag} {H : Hp} {d : Addr} {o : HO} {kvs : List (List Key × V)} {v : V} {b : Bd} (e : H d = some (.dT kvs)) (h : Rw.RW K H v b) : Rw.RW K (upd H d o) v b := by
  obtain ⟨a, e1, h⟩ := h
  refine ⟨a, e1, ?_⟩
  rcases h with (h | ⟨u, h⟩) | h
  · exact .inl (.inl (by rw [upd_ne (ne_of h e fun z => nomatch z)]; exact h))
  · exact .inl (.inr ⟨u, by rw [upd_ne (ne_of h e fun z => nomatch z)]; exact h⟩)
  · exact .inr h
theorem keptB_snoc {m : List (Pr × Option Bd)} {ps : List Pr} {p : Pr} : keptB m (ps ++ [p]) = keptB m ps ++ (match (look m p).getD none with | some b => [(p, b)] | none => []) := by
  unfold keptB
  rw [List.filterMap_append]
  congr 1
  rw [List.filterMap_cons, List.filterMap_nil]
  cases (look m p).getD none <;> rfl
theorem keptB_key {m : List (Pr × Option Bd)} {ps : List Pr} {e : Pr × Bd} (h : e ∈ keptB m ps) : e.1 ∈ ps := by
  unfold keptB at h
  obtain ⟨p, hp, h⟩ := List.mem_filterMap.mp h
  cases hb : (look m p).getD none with
  | none => rw [hb] at h; cases h
  | some b =>
    rw [hb] at h
    cases h
    exact hp
theorem keptB_len {m : List (Pr × Option Bd)} {ps : List Pr} : (keptB m ps).length ≤ ps.length := List.length_filterMap_le _ _
end Rw
set_option Elab.async false
set_option linter.all false
set_option maxRecDepth 100000
set_option maxHeartbeats 8000000
namespace Rw
open PySem L2
def rTupOf (K : PySem.W.Frag) : List V → Hp → VK → Prop := fun xs H Q => ∃ (p : Addr) (ys : List V), xs = [.ref p] ∧ ((SqL K H p ys ∧ ∀ l, H l = none → Q (.ref l) (upd H l (.tup ys))) ∨ (SqT K H p ys ∧ Q (.ref p) H))
theorem call_tupOf {X : Cx} {K : PySem.W.Frag} (e : X.K = K) : CallR X (.type "tuple") (rTupOf K) := by
  subst e
  exact call_tuple_of
section
variable {P : Program} {w : World} {K : PySem.W.Frag} {mg : Str → Option Value} {base : Heap}
def spOrdered (K : PySem.W.Frag) : Sp := fun vs H Q _ => ∃ (l d : Addr) (ns : List Str) (m : List (Pr × Option Bd)), vs = [.ref l, .ref d] ∧ H l = some (.lst (ns.map V.str)) ∧ DT (RO K) H d m ∧ (∀ e ∈ m, e.1.1 ∈ spots ns ∧ e.1.2 ∈ spots ns ∧ e.1.1 ≠ e.1.2) ∧ ns.length ≤ 20 ∧ m.length ≤ 1000 ∧ (spots ns).Nodup ∧
  ∀ (r : Addr) (H' : Hp), Same H H' → H r = none → DT (RW K) H' r (keptB m (crossP (spots ns) (spots ns))) → Q (.ref r) H'
theorem scOrdered : FnScope ["names", "bounds", "key", "spots", "pairs", "one", "other", "pair"] ["names", "bounds"] (defScope sOrdered) := ⟨rfl, rfl, rfl, by decide +kernel, rfl, by decide +kernel, by decide +kernel⟩
theorem ok_ordered {f fp fu : Addr} {fd fdp fdu : FuncData} (F : Fun K "ordered_bounds" "ordered_bounds" sOrdered f fd) (GP : FnOk P w K mg base CX0 2 fp fdp ["names", "thing"] (spIsSpotPair K)) (GU : FnOk P w K mg base CX0 2 fu fdu ["thing"] (spIsUpper K))
    (bP : Binds K fdp ["names", "thing"] []) (bU : Binds K fdu ["thing"] []) (kP : PySem.W.keepIn K (.ref fp) = true) (kU : PySem.W.keepIn K (.ref fu) = true) (mP : mg "is_spot_pair" = some (.ref fp)) (mU : mg "is_upper" = some (.ref fu))
    (mi : mg "isinstance" = none) (m1 : mg "dict" = none) (m2 : mg "tuple" = none) : FnOk P w K mg base CX0 3 f fd ["names", "bounds"] (spOrdered K) := by
  refine F.ok scOrdered (fun vs H Q E h => ?_) (fun cdv A outer s H vs Q E hr h => ?_)
  · obtain ⟨l, d, ns, m, rfl, _⟩ := h
    rfl
  obtain ⟨l, d, ns, m, rfl, hl, hD, hm, hn, hlm, hnd, q⟩ := h
  have hu := hu_of hr
  refine ⟨_, pss_cons (ps_if (pt_not (pt_val (pe_callB call_isi rfl mi (by decide +kernel) (pa_cons (pv 1) (pa_cons (pe_bltn (v := .ty "dict") rfl m1 (by decide +kernel) rfl) pa_nil))))) pss_never pss_nil)
    (pss_cons (ps_lock (ps_for PassesOwn.never rfl (pi_keys (pv 1)) (pg_name (i := 2) scOrdered.nd rfl (Or.inl rfl))
      (pss_one (ps_if (PW.pt (pw_or (pt_not (pt_val (pe_call GP hr rfl mP kP bP .nil pass0 (pa_cons (pv 0) (pa_cons (pv 2) pa_nil))))) (pw_or1 (pt_not (pt_val (pe_call GU hr rfl mU kU bU .nil pass0 (pa_cons (pe_dget hu (pv 1) (pv 2) (fun _ _ => rfl)) pa_nil))))))) pss_never pss_nil))))
    (pss_cons (ps_set (i := 3) scOrdered.nd rfl (Or.inr rfl) (pe_op op_cat (pe_lst (pa_cons pe_str pa_nil)) (pv 0)))
    (pss_cons (ps_setLc2 (i := 4) (own := [("one", 5), ("other", 6)]) (vs1 := [6]) (g := gName 5) (g1 := gName 6) (wi1 := iList K (tVar 3)) rfl scOrdered.nd rfl rfl (sw_true rfl rfl rfl rfl) (pi_list (pv 3)) (blkOk_by (N := ["names", "bounds", "key", "spots", "pairs", "one", "other", "pair"]) (sc := defScope sOrdered) (by decide +kernel)) (by decide)
        (fun _ _ _ _ _ => pg_name (i := 5) scOrdered.nd rfl (Or.inl rfl)) (fun _ _ _ _ _ => pts_nil) (fun _ _ _ _ _ => pi_list (pv 3)) (fun _ _ _ _ _ => pg_name (i := 6) scOrdered.nd rfl (Or.inl rfl)) (fun _ _ _ _ _ => pts_nil)
        (fun _ _ _ _ _ => pe_tup (pa_cons (pv 5) (pa_cons (pv 6) pa_nil))))
    (pss_one (ps_ret (pe_dcO (.inr rfl) (own := [("pair", 7)]) (g := gName 7) rfl (Nat.lt_of_succ_lt hu) scOrdered.nd (pi_list (pv 4)) (blkOk_by (N := ["names", "bounds", "key", "spots", "pairs", "one", "other", "pair"]) (sc := defScope sOrdered) (by decide +kernel))
        (fun _ _ _ _ _ => pg_name (i := 7) scOrdered.nd rfl (Or.inl rfl)) (fun _ _ _ _ _ => pts_one (pt_cmpR op_notN (pe_dget1 hu (pv 1) (pv 7) ⟨rfl, rfl, rfl, rfl⟩) pe_non (nomark _)))
        (fun _ _ _ _ _ => pv 7) (fun _ _ _ _ _ => pe_callTy (call_tupOf (K := K) rfl) rfl m2 PyProof.Rows.boot_tuple (pa_cons (pe_dget hu (pv 1) (pv 7) (fun _ _ => rfl)) pa_nil)))))))), ?_⟩
  obtain ⟨kvs, hkd, hpr⟩ := hD
  have hlk : m.length = kvs.length := Paired.length hpr
  have k1 : PySem.W.kitOne K (.type "dict") (.type "dict") = some true := kit_ty (by decide +kernel)
  refine ⟨_, rfl, .ref d, .ty "dict", _, _, true, rfl, ClsV.ty "dict", .base (.dT hkd), k1, true, rfl, ?_⟩
  refine (if_neg (by decide)).mpr ?_
  refine ⟨d, .dT kvs, hkd, True.intro, fun od => ?_⟩
  refine ⟨_, rfl, d, od, rfl, .inr ⟨kvs, upd_same, for_it walk_keysT (fun i σ' H' => ∃ key : Option V, σ' = [some (.ref l), some (.ref d), key, none, none, none, none, none] ∧ Lk H H' d od (.dT kvs)) ⟨none, rfl, Lk.first⟩ ?_ ?_ ?_⟩⟩
  · rintro i σ' H' hi ⟨key, rfl, lk⟩
    exact lk.at'
  · rintro i x σ' H1 H2 hi ⟨key, rfl, lk⟩ ⟨rfl, k, v, qa, hkv, rfl, hqa⟩
    obtain ⟨e, he, hek, hev⟩ := paired_at hpr hkv
    have hem : e ∈ m := List.mem_of_getElem? he
    obtain ⟨h1, h2, h3⟩ := hm e hem
    have hek : k = key2 e.1 := hek
    subst hek
    have hqa : H2 qa = some (.tup [.str e.1.1, .str e.1.2]) := hqa
    refine ⟨_, rfl, _, rfl, l, qa, ns, e.1, rfl, SqL.of (lk.keep _ _ hl (ne_of hl hkd fun z => nomatch z)), hqa, h1, h2, h3, true, rfl, ?_⟩
    refine (if_neg (by decide)).mpr ?_
    rcases pl_look (R := fun v b => RO K H v b) e.1 hpr with ⟨g1, _⟩ | ⟨b, v', g1, g2, g3⟩
    · exact absurd g1 (look_mem hem)
    have gd : DGet H2 d (.ref qa) (some v') := .inr ⟨kvs, key2 e.1, qa, .inr ⟨od, lk.at'⟩, rfl, hqa, g2.symm⟩
    refine ⟨_, rfl, _, rfl, d, v', rfl, gd, v', rfl, ?_, fun H3 s3 => ⟨true, rfl, ?_⟩⟩
    · rcases lk.RO hkd g3 with ⟨_, z⟩ | ⟨bd, a, _, z, hS⟩
      · exact .inl z
      · exact .inr ⟨a, bd.1, bd.2, z, hS⟩
    · refine (if_neg (by decide)).mpr ?_
      exact ⟨_, rfl, lk.same s3⟩
  rintro σ' H1 ⟨key, rfl, lk⟩
  refine ⟨lk.at', ?_⟩
  have s2 : Same H (upd H1 d (.dT kvs)) := lk.back hkd
  generalize upd H1 d (.dT kvs) = H2 at s2
  -- spots
  refine ⟨(by show 1 ≤ sizeLine; decide), fun p1 hp1 => ⟨_, rfl, p1, l, _, _, rfl, rfl, upd_same, (by rw [upd_ne (ne_of_none (s2 _ _ hl) hp1)]; exact s2 _ _ hl), ?_, fun sp hsp => ?_⟩⟩
  · rw [List.length_map]
    exact Nat.le_of_lt (small1000 (show 1 + ns.length ≤ 1000 by omega))
  have s3 : Same H (upd (upd H2 p1 (.lst [.str ""])) sp (.lst ([.str ""] ++ ns.map V.str))) := (s2.trans (same_new hp1 _)).trans (same_new hsp _)
  have hsp3 : (upd (upd H2 p1 (.lst [.str ""])) sp (.lst ([.str ""] ++ ns.map V.str))) sp = some (.lst ((spots ns).map V.str)) := upd_same
  generalize upd (upd H2 p1 (.lst [.str ""])) sp (.lst ([.str ""] ++ ns.map V.str)) = H3 at s3 hsp3
  have hsl : ((spots ns).map V.str).length = ns.length + 1 := by rw [List.length_map, List.length_cons]
  have isPr_upd : ∀ {H : Hp} {D : Addr} {xs ys : List V} {a : Addr} {p : Pr}, H D = some (.lst xs) → IsPr H a p → IsPr (upd H D (.lst ys)) a p := fun {H D xs ys a p} e h => by
    unfold IsPr at h ⊢
    rw [upd_ne (ne_of h e fun z => nomatch z)]
    exact h
  refine ⟨_, rfl, sp, rfl, ⟨_, SqL.of hsp3⟩, fun D hD => ?_⟩
  refine walk_turns (walk_list (K := K) (a := sp) (xs := (spots ns).map V.str)) (fun i H' => Same H3 H' ∧ ∃ as : List Addr, H' D = some (.lst (as.map V.ref)) ∧ Paired (fun p a => IsPr H' a p) (crossP ((spots ns).take i) (spots ns)) as)
    ⟨same_new hD _, [], upd_same, .nil⟩ (fun i H' _ h => h.1.seq (SqL.of hsp3)) ?_ ?_
  · rintro i x H4 H5 hi ⟨s4, as, hD4, hP4⟩ ⟨rfl, hx⟩
    obtain ⟨c, hc, rfl⟩ := at_map hx
    refine ⟨rfl, _, rfl, sp, rfl, ⟨_, s4.seq (SqL.of hsp3)⟩, ?_⟩
    refine walk_turns (walk_list (K := K) (a := sp) (xs := (spots ns).map V.str)) (fun j H' => Same H3 H' ∧ ∃ as : List Addr, H' D = some (.lst (as.map V.ref)) ∧ Paired (fun p a => IsPr H' a p) (crossP ((spots ns).take i) (spots ns) ++ ((spots ns).take j).map fun b => (c, b)) as)
      ⟨s4, as, hD4, by rw [List.take_zero, List.map_nil, List.append_nil]; exact hP4⟩ (fun i H' _ h => h.1.seq (SqL.of hsp3)) ?_ ?_
    · rintro j y H6 H7 hj ⟨s6, bs, hD6, hP6⟩ ⟨rfl, hy⟩
      obtain ⟨b, hb, rfl⟩ := at_map hy
      have hbl : bs.length ≤ 1000 := by
        have z := Paired.length hP6
        rw [List.length_append, crossP_len, List.length_map, List.length_take, List.length_take, List.length_cons] at z
        have z1 : min i (ns.length + 1) * (ns.length + 1) ≤ 21 * 21 := Nat.mul_le_mul (by omega) (by omega)
        omega
      refine ⟨rfl, _, rfl, _, rfl, (by show 2 ≤ sizeLine; decide), fun r hr' => ?_⟩
      have hDr : (upd H7 r (.tup [.str c, .str b])) D = some (.lst (bs.map V.ref)) := by rw [upd_ne (ne_of_none hD6 hr')]; exact hD6
      refine ⟨bs.map V.ref, hDr, by rw [List.length_map]; exact small1000 hbl, fun b' o e => ?_, bs ++ [r], by rw [List.map_append]; exact upd_same, ?_⟩
      · have e2 := s6 _ _ e
        rw [upd_ne (ne_of_none e hD), upd_ne (ne_of_none e2 hr')]
        exact e2
      · rw [take_snoc hb, List.map_append, ← List.append_assoc]
        refine Rw.Paired.snoc (Rw.Paired.imp hP6 fun p a _ z => isPr_upd hDr (z.same (same_new hr' _))) ?_
        exact isPr_upd hDr (show IsPr _ r (c, b) from upd_same)
    · rintro H6 ⟨s6, bs, hD6, hP6⟩
      refine ⟨s6, bs, hD6, ?_⟩
      rw [hsl, List.take_of_length_le (Nat.le_of_eq (List.length_cons ..))] at hP6
      have e : crossP ((spots ns).take (i + 1)) (spots ns) = crossP ((spots ns).take i) (spots ns) ++ (spots ns).map fun b => (c, b) := by
        rw [take_snoc hc]
        unfold crossP
        rw [List.flatMap_append, List.flatMap_cons, List.flatMap_nil, List.append_nil]
      rw [e]
      exact hP6
  rintro H4 ⟨s4, as, hD4, hP4⟩
  rw [hsl, List.take_of_length_le (Nat.le_of_eq (List.length_cons ..))] at hP4
  have sH4 : Same H H4 := s3.trans s4
  have hps : (crossP (spots ns) (spots ns)).length ≤ 1000 := by
    rw [crossP_len, List.length_cons]
    have z1 : (ns.length + 1) * (ns.length + 1) ≤ 21 * 21 := Nat.mul_le_mul (by omega) (by omega)
    omega
  have hpnd := crossP_nd hnd hnd
  have hal : as.length = (crossP (spots ns) (spots ns)).length := (Paired.length hP4).symm
  refine ⟨_, rfl, D, rfl, ⟨_, SqL.of hD4⟩, fun r hr4 => ?_⟩
  refine turns_it (walk_list (K := K) (a := D) (xs := as.map V.ref)) (fun i H' => Same H4 H' ∧ DT (RW K) H' r (keptB m ((crossP (spots ns) (spots ns)).take i))) ⟨same_new hr4 _, [], upd_same, .nil⟩ (fun i H' _ h => h.1.seq (SqL.of hD4)) ?_ ?_
  · rintro i x H5 H6 hi ⟨s5, hD5⟩ ⟨rfl, hx⟩
    obtain ⟨a, ha, rfl⟩ := at_map hx
    obtain ⟨p, hp, hap⟩ := paired_at hP4 ha
    have ha5 : IsPr H6 a p := hap.same s5
    have dkv : H6 d = some (.dT kvs) := s5 _ _ (sH4 _ _ hkd)
    have g5 : DGet H6 d (.ref a) (valV kvs (key2 p)) := DGet.t dkv ha5
    have tk := take_snoc hp
    refine ⟨rfl, _, rfl, d, rfl, .inr ⟨kvs, .inl dkv⟩, _, rfl, valV kvs (key2 p), g5, rfl, _, rfl, ?_⟩
    rcases pl_look (R := fun v b => RO K H v b) p hpr with ⟨g1, g2⟩ | ⟨b, v, g1, g2, g3⟩
    · rw [g2]
      refine (if_neg (by decide)).mpr ⟨s5, ?_⟩
      rw [tk, keptB_snoc, g1]
      show DT (RW K) H6 r (keptB m _ ++ [])
      rw [List.append_nil]
      exact hD5
    · rcases RO.same g3 (sH4.trans s5) with ⟨rfl, rfl⟩ | ⟨bd, t, rfl, rfl, hS⟩
      · rw [g2]
        refine (if_neg (by decide)).mpr ⟨s5, ?_⟩
        rw [tk, keptB_snoc, g1]
        show DT (RW K) H6 r (keptB m _ ++ [])
        rw [List.append_nil]
        exact hD5
      · rw [g2] at g5
        rw [g2]
        refine (if_pos (by show (!decide (V.ref t = V.non)) = true; rw [decide_eq_false (fun z => nomatch z)]; rfl)).mpr ?_
        have fresh : look (keptB m ((crossP (spots ns) (spots ns)).take i)) p = none := look_none fun e he z => not_before hpnd hp (z ▸ keptB_key he)
        have hkl : (keptB m ((crossP (spots ns) (spots ns)).take i)).length < sizeLine := by
          have z1 := keptB_len (m := m) (ps := (crossP (spots ns) (spots ns)).take i)
          rw [List.length_take] at z1
          exact small1000 (by omega)
        have fin : ∀ (t' : Addr) (H7 : Hp), Same H6 H7 → SqT K H7 t' [wordV bd.2, .int bd.1] → DT (RW K) H7 r (keptB m ((crossP (spots ns) (spots ns)).take i)) → ∃ H8, DPut H7 r (.ref a) (.ref t') H8 ∧ Same H4 H8 ∧ DT (RW K) H8 r (keptB m ((crossP (spots ns) (spots ns)).take (i + 1))) := fun t' H7 s7 hT hD7 => by
          obtain ⟨o, dp, dt⟩ := hD7.put (ha5.same s7) fresh hkl (b := bd) ⟨t', rfl, hT⟩ fun o kvs v b e h => RW.put e h
          refine ⟨_, dp, fun b o e => ?_, ?_⟩
          · rw [upd_ne (ne_of_none e hr4)]
            exact s7 _ _ (s5 _ _ e)
          · rw [tk, keptB_snoc, g1]
            exact dt
        refine ⟨_, rfl, _, rfl, _, rfl, d, _, rfl, g5, t, [wordV bd.2, .int bd.1], rfl, ?_⟩
        rcases hS with hS | hS
        · refine .inl ⟨hS, fun t' ht' => ?_⟩
          exact fin t' _ (same_new ht' _) (SqT.of upd_same) (hD5.mono (fun o e => by rw [upd_ne (ne_of_none e ht')]; exact e) fun v b h => RW.same h (same_new ht' _))
        · exact .inr ⟨hS, fin t _ (Same.refl _) hS hD5⟩
  · rintro H5 ⟨s5, hD5⟩
    rw [List.length_map, hal, List.take_length] at hD5
    exact q r H5 (sH4.trans s5) (sH4.free hr4) hD5
end
end Rw
set_option Elab.async false
set_option linter.all false
set_option maxRecDepth 100000
set_option maxHeartbeats 8000000
namespace Rw
open PySem L2
abbrev sTInit : Stmt := inClass (top 24) 0
abbrev sTNames : Stmt := inClass (top 24) 1
abbrev sTBounds : Stmt := inClass (top 24) 3
abbrev sTLen : Stmt := inClass (top 24) 4
abbrev sTEq : Stmt := inClass (top 24) 5
/-! ### a table -/
theorem nodup_le {α : Type} [DecidableEq α] : ∀ {xs ys : List α}, xs.Nodup → (∀ x ∈ xs, x ∈ ys) → xs.length ≤ ys.length
  | [], _, _, _ => Nat.zero_le _
  | x :: xs, ys, h, s => by
    obtain ⟨h1, h2⟩ := List.nodup_cons.mp h
    have hx := s x List.mem_cons_self
    have y := nodup_le (ys := ys.erase x) h2 fun z hz => (List.mem_erase_of_ne (fun e : z = x => h1 (by rw [← e]; exact hz))).mpr (s z (List.mem_cons_of_mem _ hz))
    rw [List.length_erase_of_mem hx] at y
    have p := List.length_pos_of_mem hx
    rw [List.length_cons]
    omega
theorem look_some {β : Type} {m : List (Pr × β)} {q : Pr} {b : β} (h : look m q = some b) : ∃ e ∈ m, e.1 = q ∧ e.2 = b := by
  induction m with
  | nil => cases h
  | cons x m ih =>
    by_cases c : x.1 = q
    · rw [look_pos c] at h
      exact ⟨x, List.mem_cons_self, c, Option.some.inj h⟩
    · rw [look_neg c] at h
      obtain ⟨e, he, h1⟩ := ih h
      exact ⟨e, List.mem_cons_of_mem _ he, h1⟩
theorem look_of {β : Type} {m : List (Pr × β)} {e : Pr × β} (hn : (m.map (·.1)).Nodup) (h : e ∈ m) : look m e.1 = some e.2 := by
  induction m with
  | nil => cases h
  | cons x m ih =>
    obtain ⟨h1, h2⟩ := List.nodup_cons.mp hn
    rcases List.mem_cons.mp h with h | h
    · subst h
      exact look_pos rfl
    · rw [look_neg fun z => h1 (by show x.1 ∈ _; rw [z]; exact List.mem_map.mpr ⟨e, h, rfl⟩)]
      exact ih h2 h
theorem keptB_sub {m : List (Pr × Option Bd)} : ∀ {ps : List Pr}, ((keptB m ps).map (·.1)).Sublist ps
  | [] => List.Sublist.slnil
  | p :: ps => by
    have ih := keptB_sub (m := m) (ps := ps)
    unfold keptB at ih ⊢
    rw [List.filterMap_cons]
    cases (look m p).getD none with
    | none => exact ih.cons p
    | some b => exact ih.cons₂ p
theorem nb_ : ¬ (("_names" : Str) = "_bounds") := by decide +kernel
def tf (l d : Addr) : List (Str × V) := putF "_bounds" (.ref d) (putF "_names" (.ref l) [])
theorem tf_names {l d : Addr} : (tf l d).lookup ("_names" : Str) = some (.ref l) := by
  unfold tf
  rw [lookup_putF, if_neg nb_, lookup_putF, if_pos rfl]
theorem tf_bounds {l d : Addr} : (tf l d).lookup ("_bounds" : Str) = some (.ref d) := by
  unfold tf
  rw [lookup_putF, if_pos rfl]
theorem tf_no {l d : Addr} {f : Str} (h1 : ¬ f = "_bounds") (h2 : ¬ f = "_names") : (tf l d).lookup f = none := by
  unfold tf
  rw [lookup_putF, if_neg h1, lookup_putF, if_neg h2]
  all_goals rfl
/-- the names and the bounds of a table -/
structure TabOk (ns : List Str) (m : List (Pr × Bd)) : Prop where
  nd : (spots ns).Nodup
  good : ∀ x ∈ ns, nameB x = true ∧ x.length ≤ 1000
  sok : ∀ x ∈ ns, PyData.strOk x = true
  few : ns.length ≤ 20
  keys : ∀ e ∈ m, e.1.1 ∈ spots ns ∧ e.1.2 ∈ spots ns ∧ e.1.1 ≠ e.1.2
  kn : (m.map (·.1)).Nodup
theorem TabOk.fewB {ns : List Str} {m : List (Pr × Bd)} (h : TabOk ns m) : m.length ≤ 1000 := by
  have z : ∀ x ∈ m.map (·.1), x ∈ crossP (spots ns) (spots ns) := fun x hx => by
    obtain ⟨e, he, rfl⟩ := List.mem_map.mp hx
    exact mem_crossP.mpr ⟨(h.keys e he).1, (h.keys e he).2.1⟩
  have y := nodup_le h.kn z
  rw [List.length_map, crossP_len, List.length_cons] at y
  have few := h.few
  have z1 : (ns.length + 1) * (ns.length + 1) ≤ 21 * 21 := Nat.mul_le_mul (by omega) (by omega)
  omega
theorem keptB_ok {ns : List Str} {m : List (Pr × Option Bd)} (hnd : (spots ns).Nodup) (hg : ∀ x ∈ ns, nameB x = true ∧ x.length ≤ 1000) (hs : ∀ x ∈ ns, PyData.strOk x = true) (hf : ns.length ≤ 20) (hk : ∀ e ∈ m, e.1.1 ∈ spots ns ∧ e.1.2 ∈ spots ns ∧ e.1.1 ≠ e.1.2) : TabOk ns (keptB m (crossP (spots ns) (spots ns))) := by
  refine ⟨hnd, hg, hs, hf, fun e he => ?_, ?_⟩
  · unfold keptB at he
    obtain ⟨p, hp, h⟩ := List.mem_filterMap.mp he
    cases hb : look m p with
    | none => rw [hb] at h; cases h
    | some b =>
      obtain ⟨e', he', h1⟩ := look_some hb
      cases b with
      | none => rw [hb] at h; cases h
      | some bd =>
        rw [hb] at h
        cases h
        have y := hk e' he'
        rw [h1.1] at y
        exact y
  · have sub : ((keptB m (crossP (spots ns) (spots ns))).map (·.1)).Sublist (crossP (spots ns) (spots ns)) := keptB_sub
    exact (crossP_nd hnd hnd).sublist sub
def Tab (K : PySem.W.Frag) (C : Addr) (H : Hp) (p : Addr) (ns : List Str) (m : List (Pr × Bd)) : Prop := TabOk ns m ∧ ∃ dx l d, H p = some (.ins C dx (tf l d)) ∧ H l = some (.lst (ns.map V.str)) ∧ DT (RW K) H d m
theorem Tab.same {K : PySem.W.Frag} {C : Addr} {H H' : Hp} {p : Addr} {ns : List Str} {m : List (Pr × Bd)} (h : Tab K C H p ns m) (s : Same H H') : Tab K C H' p ns m := by
  obtain ⟨ok, dx, l, d, h1, h2, h3⟩ := h
  exact ⟨ok, dx, l, d, s _ _ h1, s _ _ h2, h3.mono (fun o e => s _ _ e) fun v b r => r.same s⟩
structure TxtT (K : PySem.W.Frag) (mg : Str → Option Value) (C : Addr) : Prop where
  cl : Cls K C
  nN : NoAttr K C "_names"
  nB : NoAttr K C "_bounds"
section
variable {P : Program} {w : World} {K : PySem.W.Frag} {mg : Str → Option Value} {base : Heap}
/-- what a table is made of -/
structure Makes (K : PySem.W.Frag) (H : Hp) (a d : Addr) (ns : List Str) (m : List (Pr × Option Bd)) : Prop where
  names : TxS K H a ns
  nd : (spots ns).Nodup
  good : ∀ x ∈ ns, nameB x = true ∧ x.length ≤ 1000
  sok : ∀ x ∈ ns, PyData.strOk x = true
  few : ns.length ≤ 20
  dict : DT (RO K) H d m
  keys : ∀ e ∈ m, e.1.1 ∈ spots ns ∧ e.1.2 ∈ spots ns ∧ e.1.1 ≠ e.1.2
  fewB : m.length ≤ 1000
theorem Makes.same {H H' : Hp} {a d : Addr} {ns : List Str} {m : List (Pr × Option Bd)} (h : Makes K H a d ns m) (s : Same H H') : Makes K H' a d ns m :=
  ⟨Seq.same h.names s, h.nd, h.good, h.sok, h.few, h.dict.mono (fun o e => s _ _ e) fun v b r => r.same s, h.keys, h.fewB⟩
theorem sqL_ins {H H' : Hp} {p a C dx : Addr} {fs : List (Str × V)} {xs : List V} (b : But p H H') (hp : H p = some (.ins C dx fs)) (h : SqL K H a xs) : SqL K H' a xs := by
  rcases h with (h | ⟨o, h⟩) | h
  · exact .inl (.inl (b _ _ h (ne_of h hp fun z => nomatch z)))
  · exact .inl (.inr ⟨o, b _ _ h (ne_of h hp fun z => nomatch z)⟩)
  · exact .inr h
theorem sqT_ins {H H' : Hp} {p a C dx : Addr} {fs : List (Str × V)} {xs : List V} (b : But p H H') (hp : H p = some (.ins C dx fs)) (h : SqT K H a xs) : SqT K H' a xs := by
  rcases h with (h | ⟨o, h⟩) | h
  · exact .inl (.inl (b _ _ h (ne_of h hp fun z => nomatch z)))
  · exact .inl (.inr ⟨o, b _ _ h (ne_of h hp fun z => nomatch z)⟩)
  · exact .inr h
theorem RO.ins {H H' : Hp} {p C dx : Addr} {fs : List (Str × V)} {v : V} {x : Option Bd} (b : But p H H') (hp : H p = some (.ins C dx fs)) (h : RO K H v x) : RO K H' v x := by
  rcases h with h | ⟨bd, a, e1, e2, h⟩
  · exact .inl h
  · exact .inr ⟨bd, a, e1, e2, h.elim (fun z => .inl (sqL_ins b hp z)) fun z => .inr (sqT_ins b hp z)⟩
theorem RW.ins {H H' : Hp} {p C dx : Addr} {fs : List (Str × V)} {v : V} {x : Bd} (b : But p H H') (hp : H p = some (.ins C dx fs)) (h : RW K H v x) : RW K H' v x := by
  obtain ⟨a, e, h⟩ := h
  exact ⟨a, e, sqT_ins b hp h⟩
theorem DT.ins {β : Type} {R : Hp → V → β → Prop} {H H' : Hp} {p d C dx : Addr} {fs : List (Str × V)} {m : List (Pr × β)} (b : But p H H') (hp : H p = some (.ins C dx fs)) (h : DT R H d m) (f : ∀ v x, R H v x → R H' v x) : DT R H' d m := by
  obtain ⟨kvs, e, r⟩ := h
  exact ⟨kvs, b _ _ e (ne_of e hp fun z => nomatch z), Rw.Paired.imp r fun x y _ z => ⟨z.1, f _ _ z.2⟩⟩
theorem Makes.ins {H H' : Hp} {p a d C dx : Addr} {fs : List (Str × V)} {ns : List Str} {m : List (Pr × Option Bd)} (h : Makes K H a d ns m) (b : But p H H') (hp : H p = some (.ins C dx fs)) : Makes K H' a d ns m :=
  ⟨h.names.elim (fun z => .inl (sqL_ins b hp z)) fun z => .inr (sqT_ins b hp z), h.nd, h.good, h.sok, h.few, DT.ins b hp h.dict fun v x r => RO.ins b hp r, h.keys, h.fewB⟩
def spTInit (K : PySem.W.Frag) (C : Addr) : Sp := fun vs H Q _ => ∃ (H0 : Hp) (p dx a d : Addr) (ns : List Str) (m : List (Pr × Option Bd)), vs = [.ref p, .ref a, .ref d] ∧ Same H0 H ∧ H0 p = none ∧ H p = some (.ins C dx []) ∧ Makes K H a d ns m ∧
  ∀ H', Same H0 H' → Tab K C H' p ns (keptB m (crossP (spots ns) (spots ns))) → Q .non H'
theorem scTInit : FnScope ["self", "names", "bounds", "bad"] ["self", "names", "bounds"] (defScope sTInit) := ⟨rfl, rfl, rfl, by decide +kernel, rfl, by decide +kernel, by decide +kernel⟩
theorem ok_tinit {f fb fo C : Addr} {fd fdb fdo : FuncData} (F : Fun K "__init__" "Table.__init__" sTInit f fd) (T : TxtT K mg C) (GB : FnOk P w K mg base CX0 2 fb fdb ["things"] (spBadNameAt K)) (GO : FnOk P w K mg base CX0 3 fo fdo ["names", "bounds"] (spOrdered K))
    (bB : Binds K fdb ["things"] []) (bO : Binds K fdo ["names", "bounds"] []) (kB : PySem.W.keepIn K (.ref fb) = true) (kO : PySem.W.keepIn K (.ref fo) = true) (mB : mg "bad_name_at" = some (.ref fb)) (mO : mg "ordered_bounds" = some (.ref fo)) (m1 : mg "list" = none) :
    FnOk P w K mg base CX0 4 f fd ["self", "names", "bounds"] (spTInit K C) := by
  refine F.ok scTInit (fun vs H Q E h => ?_) (fun cdv A outer s H vs Q E hr h => ?_)
  · obtain ⟨H0, p, dx, a, d, ns, m, rfl, _⟩ := h
    rfl
  obtain ⟨H0, p, dx, a, d, ns, m, rfl, s0, p0, hp, M, q⟩ := h
  have hu := hu_of hr
  refine ⟨_, pss_cons (ps_set (i := 3) scTInit.nd rfl (Or.inl rfl) (pe_call GB (hr.mono (by decide)) rfl mB kB bB .nil pass0 (pa_cons (pv 1) pa_nil)))
    (pss_cons (ps_if (pt_cmpR op_notN (pv 3) pe_non (nomark _)) pss_never pss_nil)
    (pss_cons (ps_fld (pv 0) (pe_callTy call_list_of rfl m1 PyProof.Rows.boot_list (pa_cons (pv 1) pa_nil)) rfl)
    (pss_one (ps_fld (pv 0) (pe_call GO hr rfl mO kO bO .nil pass0 (pa_cons (pe_fld (pv 0) rfl) (pa_cons (pv 2) pa_nil))) rfl)))), ?_⟩
  refine ⟨_, rfl, a, ns, rfl, M.names, (List.nodup_cons.mp M.nd).2, M.good, Nat.le_trans M.few (by decide), fun H1 s1 => ?_⟩
  refine ⟨_, rfl, rfl, false, rfl, (if_neg Bool.false_ne_true).mpr ?_⟩
  have M1 := M.same s1
  have hp1 := s1 _ _ hp
  refine ⟨_, rfl, a, _, rfl, M1.names, fun l hl => ⟨_, rfl, p, C, dx, [], rfl, (by rw [upd_ne (ne_of_none hp1 hl)]; exact hp1), T.cl, T.nN, (by show 0 < 1000; decide), ?_⟩⟩
  have npl := ne_of_none hp1 hl
  have b2 : But p H1 (upd (upd H1 l (.lst (ns.map V.str))) p (.ins C dx (putF "_names" (.ref l) []))) := (But.refl.new hl).put
  have hl2 : (upd (upd H1 l (.lst (ns.map V.str))) p (.ins C dx (putF "_names" (.ref l) []))) l = some (.lst (ns.map V.str)) := by rw [upd_ne npl.symm, upd_same]
  have hp2 : (upd (upd H1 l (.lst (ns.map V.str))) p (.ins C dx (putF "_names" (.ref l) []))) p = some (.ins C dx (putF "_names" (.ref l) [])) := upd_same
  have M2 := M1.ins b2 hp1
  have s2 : Same H0 (upd (upd H1 l (.lst (ns.map V.str))) p (.ins C dx (putF "_names" (.ref l) []))) := fun b o e => b2 b o (s1 _ _ (s0 _ _ e)) (ne_of_none e p0)
  generalize upd (upd H1 l (.lst (ns.map V.str))) p (.ins C dx (putF "_names" (.ref l) [])) = H2 at hl2 hp2 M2 s2
  refine ⟨_, rfl, p, C, dx, _, _, rfl, hp2, T.cl, T.nN, (by rw [lookup_putF, if_pos rfl]), _, rfl, l, d, ns, m, rfl, hl2, M2.dict, M2.keys, M2.few, M2.fewB, M2.nd, fun r H3 s3 hr3 dt3 => ?_⟩
  have hp3 := s3 _ _ hp2
  refine ⟨_, rfl, p, C, dx, _, rfl, hp3, T.cl, T.nB, (by show 1 < 1000; decide), ?_⟩
  have b4 : But p H3 (upd H3 p (.ins C dx (tf l r))) := But.refl.put
  refine q _ (fun b o e => b4 b o (s3 _ _ (s2 _ _ e)) (ne_of_none e p0)) ⟨keptB_ok M.nd M.good M.sok M.few M.keys, dx, l, r, upd_same, b4 _ _ (s3 _ _ hl2) (ne_of (s3 _ _ hl2) hp3 fun z => nomatch z), DT.ins b4 hp3 dt3 fun v x h => RW.ins b4 hp3 h⟩
end
end Rw
set_option Elab.async false
set_option linter.all false
set_option maxRecDepth 100000
set_option maxHeartbeats 8000000
namespace Rw
open PySem L2
section
variable {P : Program} {w : World} {K : PySem.W.Frag} {mg : Str → Option Value} {base : Heap}
def spTNames (K : PySem.W.Frag) (C : Addr) : Sp := fun vs H Q _ => ∃ (p : Addr) (ns : List Str) (m : List (Pr × Bd)), vs = [.ref p] ∧ Tab K C H p ns m ∧ ∀ r, H r = none → Q (.ref r) (upd H r (.lst (ns.map V.str)))
theorem scTNames : FnScope ["self"] ["self"] (defScope sTNames) := ⟨rfl, rfl, rfl, by decide +kernel, rfl, by decide +kernel, by decide +kernel⟩
theorem ok_tnames {f C : Addr} {fd : FuncData} (F : Fun K "names" "Table.names" sTNames f fd) (T : TxtT K mg C) (m1 : mg "list" = none) : FnOk P w K mg base CX0 1 f fd ["self"] (spTNames K C) := by
  refine F.ok scTNames (fun vs H Q E h => ?_) (fun cdv A outer s H vs Q E hr h => ?_)
  · obtain ⟨p, ns, m, rfl, _⟩ := h
    rfl
  obtain ⟨p, ns, m, rfl, ⟨ok, dx, l, d, hp, hl, hd⟩, q⟩ := h
  refine ⟨_, pss_one (ps_ret (pe_callTy call_list_of rfl m1 PyProof.Rows.boot_list (pa_cons (pe_fld (pv 0) rfl) pa_nil))), ?_⟩
  exact ⟨_, rfl, p, C, dx, _, _, rfl, hp, T.cl, T.nN, tf_names, l, _, rfl, .inl (SqL.of hl), fun r hr' => q r hr'⟩
def spTLen (K : PySem.W.Frag) (C : Addr) : Sp := fun vs H Q _ => ∃ (p : Addr) (ns : List Str) (m : List (Pr × Bd)), vs = [.ref p] ∧ Tab K C H p ns m ∧ Q (.int (ns.length : Nat)) H
theorem scTLen : FnScope ["self"] ["self"] (defScope sTLen) := ⟨rfl, rfl, rfl, by decide +kernel, rfl, by decide +kernel, by decide +kernel⟩
theorem ok_tlen {f C : Addr} {fd : FuncData} (F : Fun K "__len__" "Table.__len__" sTLen f fd) (T : TxtT K mg C) (ml : mg "len" = none) : FnOk P w K mg base CX0 1 f fd ["self"] (spTLen K C) := by
  refine F.ok scTLen (fun vs H Q E h => ?_) (fun cdv A outer s H vs Q E hr h => ?_)
  · obtain ⟨p, ns, m, rfl, _⟩ := h
    rfl
  obtain ⟨p, ns, m, rfl, ⟨ok, dx, l, d, hp, hl, hd⟩, q⟩ := h
  refine ⟨_, pss_one (ps_ret (pe_callB call_len_seq rfl ml PySem.boot_len (pa_cons (pe_fld (pv 0) rfl) pa_nil))), ?_⟩
  refine ⟨_, rfl, p, C, dx, _, _, rfl, hp, T.cl, T.nN, tf_names, l, _, rfl, .inl (SqL.of hl), ?_⟩
  rw [List.length_map]
  exact q
def spTBounds (K : PySem.W.Frag) (C : Addr) : Sp := fun vs H Q _ => ∃ (p : Addr) (ns : List Str) (m : List (Pr × Bd)), vs = [.ref p] ∧ Tab K C H p ns m ∧ ∀ (r : Addr) (H' : Hp), H r = none → Same H H' → DT (RW K) H' r m → Q (.ref r) H'
theorem scTBounds : FnScope ["self", "pair"] ["self"] (defScope sTBounds) := ⟨rfl, rfl, rfl, by decide +kernel, rfl, by decide +kernel, by decide +kernel⟩
theorem ok_tbounds {f C : Addr} {fd : FuncData} (F : Fun K "bounds" "Table.bounds" sTBounds f fd) (T : TxtT K mg C) : FnOk P w K mg base CX0 1 f fd ["self"] (spTBounds K C) := by
  refine F.ok scTBounds (fun vs H Q E h => ?_) (fun cdv A outer s H vs Q E hr h => ?_)
  · obtain ⟨p, ns, m, rfl, _⟩ := h
    rfl
  obtain ⟨p, ns, m, rfl, ⟨ok, dx, l, d, hp, hl, kvs, hd, hpr⟩, q⟩ := h
  have hu := hu_of hr
  refine ⟨_, pss_one (ps_ret (pe_lock (pe_dcO (.inr rfl) (own := [("pair", 1)]) (g := gName 1) (tv := tDGet (tFld K (tVar 0) "_bounds") (tVar 1)) rfl (Nat.lt_of_succ_lt hu) scTBounds.nd (pi_keys (pe_fld (pv 0) rfl)) (blkOk_by (N := ["self", "pair"]) (sc := defScope sTBounds) (by decide +kernel))
        (fun _ _ _ _ _ => pg_name (i := 1) scTBounds.nd rfl (Or.inl rfl)) (fun _ _ _ _ _ => pts_nil) (fun _ _ _ _ _ => pv 1) (fun _ _ _ _ _ => pe_dget hu (pe_fld (pv 0) rfl) (pv 1) (fun _ _ => rfl))))), ?_⟩
  have hml : m.length = kvs.length := Paired.length hpr
  refine ⟨d, .dT kvs, hd, True.intro, fun od => ?_⟩
  have ndp : d ≠ p := ne_of hd hp fun z => nomatch z
  have lk0 : Lk H (upd H d (.frz od (.dT kvs))) d od (.dT kvs) := Lk.first
  refine ⟨_, rfl, p, C, dx, _, _, rfl, lk0.keep _ _ hp ndp.symm, T.cl, T.nB, tf_bounds, d, od, rfl, .inr ⟨kvs, lk0.at', fun r hr1 => ?_⟩⟩
  have hrd : r ≠ d := (ne_of_none lk0.at' hr1).symm
  have hr0 : H r = none := by rw [upd_ne hrd] at hr1; exact hr1
  refine turns_it walk_keysT (fun i H' => Lk H H' d od (.dT kvs) ∧ DT (RW K) H' r (m.take i)) ⟨lk0.new hr1, [], upd_same, .nil⟩ (fun i H' _ h => h.1.at') ?_ ?_
  · rintro i x H1 H2 hi ⟨lk, hD⟩ ⟨rfl, k, v, qa, hkv, rfl, hqa⟩
    obtain ⟨e, he, hek, hev⟩ := paired_at hpr hkv
    have hek : k = key2 e.1 := hek
    subst hek
    have hem : e ∈ m := List.mem_of_getElem? he
    have hqa : IsPr H2 qa e.1 := hqa
    rcases pl_look (R := fun v b => RW K H v b) e.1 hpr with ⟨g1, _⟩ | ⟨b, v', g1, g2, g3⟩
    · exact absurd g1 (look_mem hem)
    rw [look_of ok.kn hem] at g1
    cases g1
    have gd : DGet H2 d (.ref qa) (some v') := .inr ⟨kvs, key2 e.1, qa, .inr ⟨od, lk.at'⟩, rfl, hqa, g2.symm⟩
    have rv : RW K H2 v' e.2 := by
      obtain ⟨a, e1, h⟩ := g3
      exact ⟨a, e1, lk.sqT hd h⟩
    have fresh : look (m.take i) e.1 = none := look_none fun e' he' z => by
      obtain ⟨j, hj, ej⟩ := List.mem_iff_getElem.mp he'
      rw [List.length_take] at hj
      have h1 : (m.map (·.1))[i]? = some e.1 := by rw [List.getElem?_map, he]; rfl
      refine not_before ok.kn h1 ?_
      rw [← z, ← List.map_take]
      exact List.mem_map.mpr ⟨e', he', rfl⟩
    have hkl : (m.take i).length < sizeLine := by
      have z1 := ok.fewB
      rw [List.length_take]
      exact small1000 (by omega)
    obtain ⟨o, dp, dt⟩ := hD.put hqa fresh hkl rv fun o kvs v b e h => RW.put e h
    refine ⟨rfl, _, rfl, _, rfl, p, C, dx, _, _, rfl, lk.keep _ _ hp ndp.symm, T.cl, T.nB, tf_bounds, _, rfl, d, v', rfl, gd, _, dp, ⟨fun b o e n => ?_, ?_⟩, ?_⟩
    · rw [upd_ne (ne_of_none e hr0)]
      exact lk.keep b o e n
    · rw [upd_ne hrd.symm]
      exact lk.at'
    · rw [take_snoc he]
      exact dt
  · rintro H1 ⟨lk, hD⟩
    refine ⟨lk.at', q r _ hr0 (lk.back hd) ?_⟩
    rw [← hml, List.take_length] at hD
    refine hD.mono (fun o e => by rw [upd_ne hrd]; exact e) fun v b h => ?_
    obtain ⟨a, e1, h⟩ := h
    refine ⟨a, e1, ?_⟩
    rcases h with (h | ⟨u, h⟩) | h
    · exact .inl (.inl (by rw [upd_ne (ne_of h lk.at' fun z => nomatch z)]; exact h))
    · refine .inl (.inr ⟨u, ?_⟩)
      rw [upd_ne (ne_of h lk.at' fun z => nomatch z)]
      exact h
    · exact .inr h
end
end Rw
set_option Elab.async false
set_option linter.all false
set_option maxRecDepth 100000
set_option maxHeartbeats 8000000
namespace Rw
open PySem L2
/-! ### tables compared -/
theorem dp_strs {K : PySem.W.Frag} {H : Hp} : ∀ ns : List Str, DpAll K H (ns.map V.str) (ns.map PyData.str)
  | [] => .nil
  | n :: ns => .cons (.str n) (dp_strs ns)
theorem eqv_strs : ∀ ns : List Str, PyData.eqvAll (ns.map PyData.str) (ns.map PyData.str) = true
  | [] => rfl
  | n :: ns => by
    rw [List.map_cons, PyData.eqvAll, eqv_strs ns, PyData.eqv]
    simp
theorem lay_strs : ∀ ns : List Str, (∀ x ∈ ns, PyData.strOk x = true) → PyData.canLayAll0 (ns.map PyData.str) = true
  | [], _ => by simp [PyData.canLayAll0]
  | n :: ns, h => by
    rw [List.map_cons, PyData.canLayAll0, lay_strs ns fun x hx => h x (List.mem_cons_of_mem _ hx), PyData.canLay0, h n List.mem_cons_self]
    rfl
theorem depth_strs : ∀ ns : List Str, PyData.depthAll (ns.map PyData.str) = 0
  | [] => by simp [PyData.depthAll]
  | n :: ns => by
    rw [List.map_cons, PyData.depthAll, depth_strs ns, PyData.depth]
    rfl
theorem shaped_strs (ns : List Str) (h : ∀ x ∈ ns, PyData.strOk x = true) : SeqAt.shaped (.list (ns.map PyData.str)) = true := by
  unfold SeqAt.shaped
  rw [PyData.canLay0, lay_strs ns h, PyData.depth, depth_strs]
  rfl
def wordS (s : Int) : Str := if s = 1 then "below" else "upto"
def bdD (b : Bd) : PyData := .tuple [.str (wordS b.2), .int b.1]
theorem shaped_bd (b : Bd) : SeqAt.shaped (bdD b) = true := by
  unfold SeqAt.shaped bdD
  have e : PyData.strOk (wordS b.2) = true := by
    unfold wordS
    split <;> decide +kernel
  simp [PyData.canLay0, PyData.canLayAll0, PyData.depth, PyData.depthAll, e]
theorem eqv_bd (b : Bd) : PyData.eqv (bdD b) (bdD b) = true := by
  unfold bdD
  simp [PyData.eqv, PyData.eqvAll]
theorem dp_bd {K : PySem.W.Frag} {H : Hp} {v : V} {b : Bd} (h : RW K H v b) : Dp K H v (bdD b) := by
  obtain ⟨a, rfl, h⟩ := h
  exact .tup h (.cons (.str _) (.cons (.int _) .nil))
theorem agree_same {K : PySem.W.Frag} {H : Hp} {m' : List (Pr × Bd)} {ls : List (List Key × V)} (hl : Paired (fun e kv => kv.1 = key2 e.1 ∧ RW K H kv.2 e.2) m' ls) :
    ∀ {r : List (Pr × Bd)} {ks : List (List Key × V)}, (∀ e ∈ r, look m' e.1 = some e.2) → Paired (fun e kv => kv.1 = key2 e.1 ∧ RW K H kv.2 e.2) r ks → AgV K H ls ks true
  | [], _, _, .nil => .done
  | e :: r, kv :: ks, hs, .cons ⟨h1, h2⟩ t => by
    rcases pl_look (R := fun v b => RW K H v b) e.1 hl with ⟨g1, _⟩ | ⟨b, v, g1, g2, g3⟩
    · rw [hs e List.mem_cons_self] at g1
      cases g1
    · rw [hs e List.mem_cons_self] at g1
      cases g1
      have z := AgV.meet (r := ks) (b := true) (x := kv) (by rw [h1]; exact g2) (dp_bd h2) (dp_bd g3) (shaped_bd _) (shaped_bd _) (agree_same hl (fun x hx => hs x (List.mem_cons_of_mem _ hx)) t)
      rw [eqv_bd] at z
      exact z
/-- the same names, and as many bounds, the same -/
def RTab (K : PySem.W.Frag) (C : Addr) : Addr → Addr → Hp → Prop := fun a b H => ∃ ns m m', Tab K C H a ns m ∧ Tab K C H b ns m' ∧ m.length = m'.length ∧ ∀ e ∈ m, look m' e.1 = some e.2
/-- what isinstance asks of a class -/
structure IsiT (K : PySem.W.Frag) (C : Addr) : Prop where
  ha : PySem.W.findIn K (.ref C) "__class__" = some (some (.builtin "object.__class__"))
  hn : PySem.W.specialIn K (.builtin "object.__class__") "__get__" = some (some (.builtin "getset_descriptor.__get__"))
  htk : PySem.W.takesIn K (.builtin "object.__class__") = some true
  hm : PySem.W.mroIn K C (.type "object") = some true
  one : PySem.W.kitOne K (.ref C) (.ref C) = some true
theorem units66 {k : Nat} {A : Around} (r : Room k A) : A.units + 66 < cLine := by have := r.un; omega
section
variable {P : Program} {w : World} {K : PySem.W.Frag} {mg : Str → Option Value} {base : Heap}
theorem scTEq : FnScope ["self", "other"] ["self", "other"] (defScope sTEq) := ⟨rfl, rfl, rfl, by decide +kernel, rfl, by decide +kernel, by decide +kernel⟩
theorem ok_teq {f C : Addr} {fd : FuncData} (F : Fun K "__eq__" "Table.__eq__" sTEq f fd) (T : TxtT K mg C) (J : IsiT K C) (mi : mg "isinstance" = none) (mC : mg "Table" = some (.ref C)) : FnOk P w K mg base CX0 1 f fd ["self", "other"] (spEq (RTab K C)) := by
  refine F.ok scTEq (fun vs H Q E h => ?_) (fun cdv A outer s H vs Q E hr h => ?_)
  · obtain ⟨a, b, rfl, _⟩ := h
    rfl
  obtain ⟨a, b, rfl, ⟨ns, m, m', ⟨ok, dx, l, d, hp, hl, kvs, hd, hpr⟩, ⟨ok', dx', l', d', hp', hl', ls, hd', hpr'⟩, hlen, hsame⟩, q⟩ := h
  have h64 := hr.units
  have h66 := units66 hr
  refine ⟨_, pss_one (ps_ret (pe_and (pe_callB call_isi rfl mi (by decide +kernel) (pa_cons (pv 1) (pa_cons (pe_glob (v := .ref C) rfl mC rfl) pa_nil)))
    (pe_and (pe_cmpR (op_eqD h64) (pe_fld (pv 0) rfl) (pe_fld (pv 1) rfl) (nomark _)) (pe_one (pe_cmpR (op_eq_dT h66) (pe_fld (pv 0) rfl) (pe_fld (pv 1) rfl) (nomark _)))))), ?_⟩
  refine ⟨_, rfl, .ref b, .ref C, _, _, true, rfl, ClsV.own C, .base (.ins hp' T.cl J.ha J.hn J.htk J.hm), J.one, true, rfl, ?_⟩
  refine (if_pos rfl).mpr ?_
  refine ⟨_, rfl, a, C, dx, _, _, rfl, hp, T.cl, T.nN, tf_names, _, rfl, b, C, dx', _, _, rfl, hp', T.cl, T.nN, tf_names, _, _, .lst (SqL.of hl) (dp_strs ns), .lst (SqL.of hl') (dp_strs ns), shaped_strs ns ok.sok, shaped_strs ns ok.sok, _, rfl, ?_⟩
  rw [PyData.eqv, eqv_strs]
  refine (if_pos rfl).mpr ?_
  refine ⟨_, rfl, a, C, dx, _, _, rfl, hp, T.cl, T.nB, tf_bounds, _, rfl, b, C, dx', _, _, rfl, hp', T.cl, T.nB, tf_bounds, d, d', kvs, ls, true, rfl, rfl, hd, hd', agree_same hpr' hsame hpr, ?_⟩
  have e : (kvs.length == ls.length && true) = true := by
    rw [← Paired.length hpr, ← Paired.length hpr', hlen]
    simp
  rw [e]
  exact q H fun _ _ h => h
end
end Rw
set_option Elab.async false
set_option linter.all false
set_option maxRecDepth 100000
set_option maxHeartbeats 8000000
namespace Rw
open PySem PySem.Spec PyProof.Rows L2
/-! ### != of tables -/
section
variable {prog : Program} {w : World} {A : Around} {E : Value → Shared → Prop} {s : Shared} {K : PySem.W.Frag} {x C f : Addr} {ox : Obj} {od : Option Obj} {b : Value}
theorem entry_neOwn {Q : Fin → Shared → Prop} (hu : A.units < cLine) (X : K.In s.heap) (I : PySem.W.InstAt s.heap x ox C od) (hs : PySem.W.findIn K (.ref C) "__eq__" = some (some (.ref f))) (hf : PySem.W.isFn K (.ref f) = true)
    (h : wpAny (model prog w) A (call (.ref f) [.ref x, b]) (fun v s' => ∃ r, v = .bool r ∧ Q (.done (.ret (.bool (!r)))) s') E s) : wpAny (model prog w) A (Builtin.«object.__ne__» ⟨[.ref x, b], []⟩) Q E s := by
  unfold Builtin.«object.__ne__»
  repeat (first
    | with_reducible refine wpAny_cRoomFor hu ?_
    | (refine wpAny_bind (m := callSpecialIfBound? (.ref x) (Str.ofString "__eq__") [b]) (PySem.W.ifBound_K X I hs hf (wpAny_mono h (fun v s' hv => by
        obtain ⟨r, rfl, hq⟩ := hv
        repeat (first | exact hq | exact wpAny_pure hq | exact wpAny_truthy_bool hq | (refine wpAny_bind (m := truthy (.bool _)) (wpAny_truthy_bool ?_)) | wp_step)) fun _ _ e => e)))
    | wp_step)
theorem call_neOwn {Q : Value → Shared → Prop} (hu : A.in1.units < cLine) (X : K.In s.heap) (I : PySem.W.InstAt s.heap x ox C od) (hm : PySem.W.mroIn K C (.type "object") = some true) (hs : PySem.W.findIn K (.ref C) "__eq__" = some (some (.ref f))) (hf : PySem.W.isFn K (.ref f) = true)
    (h : wpAny (model prog w) A.in1 (call (.ref f) [.ref x, b]) (fun v s' => ∃ r, v = .bool r ∧ Q (.bool (!r)) s') E s) : wpAny (model prog w) A (call (.builtin "object.__ne__") [.ref x, b]) Q E s :=
  wpAny_call (codeAny_call_builtin F.cmp_object.ne.plain F.cmpEntry_ne (PySem.W.check_slot F.cmpKind_ne F.cmpSplit_ne (I.type.andThen (PySem.W.looks_mroIn X hm)) (F.cmpArgs_ne _ _) (entry_neOwn hu X I hs hf (wpAny_mono h (fun v s' hv => by
    obtain ⟨r, e, hq⟩ := hv
    exact ⟨r, e, hq⟩) fun _ _ e => e))))
theorem ifBound_objNe {args : List Value} {M : Model} {Q : Option Value → Shared → Prop} (X : K.In s.heap) (I : PySem.W.InstAt s.heap x ox C od) (hs : PySem.W.findIn K (.ref C) "__ne__" = some (some (.builtin "object.__ne__")))
    (h : wpAny M A (call (.builtin "object.__ne__") (.ref x :: args)) (fun v => Q (some v)) E s) : wpAny M A (callSpecialIfBound? (.ref x) "__ne__" args) Q E s := by
  simp only [callSpecialIfBound?, bindSpecialIfBound?]
  refine wpAny_holding (wpAny_bind (wpAny_bind (wpAny_bind (I.type.here ((PySem.W.looks_findIn X hs).here ?_)))))
  refine wpAny_bind (wpAny_askSetting (wpAny_ite ?_))
  have last : wpAny M A (call (.builtin "object.__ne__") ([.ref x] ++ args) >>= fun v => pure (some v)) Q E s := wpAny_bind (wpAny_mono h (fun v s' h' => wpAny_pure h') fun _ _ h' => h')
  split
  · exact wpAny_bind (wpAny_of_eq (F.cmp_object.ne.bind _) (wpAny_pure (by exact last)))
  · exact wpAny_tryCatch (wpAny_bind (wpAny_of_eq (F.cmp_object.ne.bind _) (wpAny_pure (by exact last))))
theorem rc_neOwn {y : Addr} {oy : Obj} {ody : Option Obj} {Q : Value → Shared → Prop} (hu : A.in1.units < cLine) (X : K.In s.heap) (I : PySem.W.InstAt s.heap x ox C od) (I' : PySem.W.InstAt s.heap y oy C ody) (hm : PySem.W.mroIn K C (.type "object") = some true) (hs : PySem.W.findIn K (.ref C) "__eq__" = some (some (.ref f)))
    (hf : PySem.W.isFn K (.ref f) = true) (hn : PySem.W.findIn K (.ref C) "__ne__" = some (some (.builtin "object.__ne__"))) (h : wpAny (model prog w) A.in1 (call (.ref f) [.ref x, .ref y]) (fun v s' => ∃ r, v = .bool r ∧ Q (.bool (!r)) s') E s) :
    wpAny (model prog w) A (richCompare .NotEq (.ref x) (.ref y)) Q E s := by
  have one : wpAny (model prog w) A (tryCompare (.ref x) "__ne__" (.ref y)) (fun r s' => ∃ v, r = some v ∧ Q v s') E s := by
    unfold tryCompare
    refine wpAny_bind (ifBound_objNe X I hn (call_neOwn hu X I hm hs hf (wpAny_mono h (fun v s' hv => ?_) fun _ _ e => e)))
    obtain ⟨r, e, hq⟩ := hv
    exact ⟨r, e, wpAny_pure ⟨_, rfl, hq⟩⟩
  unfold richCompare
  simp only [oneThing_ref]
  refine wpAny_holding (wpAny_bind (wpAny_cRoomFor (Nat.lt_of_succ_lt hu) ?_))
  rw [cmpInfo_NotEq]
  dsimp only
  refine wpAny_bind (I.type.here (wpAny_bind (I'.type.here ?_)))
  rw [show (Value.ref C != Value.ref C) = false by simp]
  simp only [Bool.false_eq_true, if_false]
  refine wpAny_bind (wpAny_pure ?_)
  simp only [Bool.false_eq_true, if_false]
  refine wpAny_bind (wpAny_mono one (fun r s' z => ?_) fun _ _ e => e)
  obtain ⟨v, rfl, hq⟩ := z
  exact wpAny_pure hq
end
/-- two tables alike, or None twice: != tells False -/
def rNeT (C : Addr) (R : Addr → Addr → Hp → Prop) : R2 := fun x y H Q => (x = .non ∧ y = .non ∧ Q (.bl false) H) ∨ (DIns C R x y H ∧ ∀ H', Same H H' → Q (.bl false) H')
section
variable {X : Cx}
theorem op_neT {CX : CXT} {C f : Addr} {fd : FuncData} {ps : List Str} {n : Nat} {R : Addr → Addr → Hp → Prop} {E : XK} (F : FnOk X.prog X.w X.K X.mg X.base CX n f fd ps (spEq R)) (hr : Room (n + 1) X.A)
    (hs : PySem.W.findIn X.K (.ref C) "__eq__" = some (some (.ref f))) (hf : PySem.W.isFn X.K (.ref f) = true) (hn : PySem.W.findIn X.K (.ref C) "__ne__" = some (some (.builtin "object.__ne__"))) (hm : PySem.W.mroIn X.K C (.type "object") = some true)
    (hb : Binds X.K fd ps []) (hx : Passes CX X E) : OpR X (compareOp .NotEq) (rNeT C R) := by
  intro pins s σ H x y v u Q I rx ry hq
  rcases hq with ⟨rfl, rfl, q⟩ | ⟨⟨a, b, dx, dy, fs, gs, rfl, rfl, ha, hb', hr'⟩, q⟩
  · exact op_ne pins s σ H .non .non v u Q I rx ry ⟨rfl, q⟩
  · cases rx
    cases ry
    obtain ⟨mA, J, _⟩ := ins_get I.hok ha
    obtain ⟨mB, J', _⟩ := ins_get I.hok hb'
    obtain ⟨od, J, _⟩ := J.look
    obtain ⟨od', J', _⟩ := J'.look
    have sp : spEq R [.ref a, .ref b] H (fun v H' => v = .bl true ∧ Ext H H') E := ⟨a, b, rfl, hr', fun H' e => ⟨rfl, e⟩⟩
    have e0 : Env0 X.prog X.w X.K X.mg X.base X.A.in1 X.stack s H := by
      have e := I.env0
      exact ⟨e.frames, e.mod, e.bs, e.bsz, e.funs, e.frf, e.hok, e.bare⟩
    have hl := F.len _ _ _ _ sp
    show wpAny (model X.prog X.w) X.A (richCompare .NotEq (.ref a) (.ref b)) _ _ _
    refine rc_neOwn (hr.in1).units0 I.kIn J J' hm hs hf hn (wpAny_call (codeAny_mono (F.run X.A.in1 X.stack s H ⟨[.ref a, .ref b], []⟩ [.ref a, .ref b] [.ref a, .ref b] _ E hr.in1 e0 (by
      have z := hb s [.ref a, .ref b] I.kIn (by simpa using hl)
      simpa using z) (.cons rfl (.cons rfl .nil)) sp) fun r s' hq => ?_))
    cases r with
    | error e => exact hx pins σ H s e s' I hq
    | ok fl =>
      cases fl with
      | ret w =>
        obtain ⟨z, H', I', rz, ez, ex⟩ := I.after hq
        subst ez
        cases rz
        exact ⟨true, rfl, .bl false, H', I', rfl, q H' ex⟩
      | next => exact False.elim hq
      | brk => exact False.elim hq
      | cont => exact False.elim hq
end
end Rw
set_option Elab.async false
set_option linter.all false
set_option maxRecDepth 100000
set_option maxHeartbeats 8000000
namespace Rw
open PySem PySem.Spec PyProof.Rows L2
/-! ### len of a table -/
def rLenTab (K : PySem.W.Frag) (C : Addr) : List V → Hp → VK → Prop := fun xs H Q => ∃ (a : Addr) (ns : List Str) (m : List (Pr × Bd)), xs = [.ref a] ∧ Tab K C H a ns m ∧ Q (.int (ns.length : Nat)) H
section
variable {X : Cx}
theorem call_lenTab {CX : CXT} {C f : Addr} {fd : FuncData} {ps : List Str} {n : Nat} {E : XK} (F : FnOk X.prog X.w X.K X.mg X.base CX n f fd ps (spTLen X.K C)) (hr : Room (n + 1) X.A)
    (hs : PySem.W.findIn X.K (.ref C) "__len__" = some (some (.ref f))) (hf : PySem.W.isFn X.K (.ref f) = true) (hb : Binds X.K fd ps []) (hx : Passes CX X E) : CallR X (.builtin "len") (rLenTab X.K C) := by
  intro pins s σ H xs us Q I r hq
  obtain ⟨a, ns, m, rfl, T, q⟩ := hq
  obtain ⟨u, rfl, ru⟩ := vals1 r
  cases ru
  have few := T.1.few
  obtain ⟨ok, dx, l, d, ha, hl⟩ := id T
  obtain ⟨mA, J, _⟩ := ins_get I.hok ha
  obtain ⟨od, J, _⟩ := J.look
  obtain ⟨mm, hF⟩ := I.fr
  have sp : spTLen X.K C [.ref a] H (fun v H' => v = .int (ns.length : Nat) ∧ Q v H') E := ⟨a, ns, m, rfl, T, rfl, q⟩
  have e0 : Env0 X.prog X.w X.K X.mg X.base X.A.in1 X.stack s H := by
    have e := I.env0
    exact ⟨e.frames, e.mod, e.bs, e.bsz, e.funs, e.frf, e.hok, e.bare⟩
  have hl := F.len _ _ _ _ sp
  refine PySem.W.len_K hF I.ok.mod.kin J hs hf (wpAny_call (codeAny_mono (F.run X.A.in1 X.stack s H ⟨[.ref a], []⟩ [.ref a] [.ref a] _ E hr.in1 e0 (by
    have z := hb s [.ref a] I.kIn (by simpa using hl)
    simpa using z) (.cons rfl .nil) sp) fun r s' hq => ?_))
  cases r with
  | error e => exact hx pins σ H s e s' I hq
  | ok fl =>
    cases fl with
    | ret w =>
      obtain ⟨z, H', I', rz, ez, qz⟩ := I.after hq
      subst ez
      obtain ⟨t, rfl⟩ := rz
      refine ⟨⟨by omega, by omega⟩, ?_⟩
      exact ⟨.int (ns.length : Nat), H', I'.tok _, ⟨_, rfl⟩, qz⟩
    | next => exact False.elim hq
    | brk => exact False.elim hq
    | cont => exact False.elim hq
end
end Rw
set_option Elab.async false
set_option linter.all false
set_option maxRecDepth 100000
set_option maxHeartbeats 8000000
namespace Rw
open PySem L2
abbrev sGridOf : Stmt := top 30
abbrev sTableOf : Stmt := top 9999
abbrev sShut : Stmt := top 31
abbrev sClosedGrid : Stmt := top 32
/-! ### grids -/
abbrev Mat := List (List Code')
def Grid (H : Hp) (g : Addr) (M : Mat) : Prop := ∃ as : List Addr, H g = some (.lst (as.map V.ref)) ∧ Paired (fun (r : List Code') a => H a = some (.lst (r.map cv))) M as
theorem Grid.same {H H' : Hp} {g : Addr} {M : Mat} (h : Grid H g M) (s : Same H H') : Grid H' g M := by
  obtain ⟨as, h1, h2⟩ := h
  exact ⟨as, s _ _ h1, Rw.Paired.imp h2 fun r a _ z => s _ _ z⟩
/-- the codes of a table's bounds, 1 (from 0 on) where a spot meets itself -/
def codeM (m : List (Pr × Bd)) (a b : Str) : Code' := (look m (a, b)).map codeB
def gridM (ns : List Str) (m : List (Pr × Bd)) : Mat := (spots ns).map fun a => (spots ns).map fun b => if a = b then some 1 else codeM m a b
theorem paired_right {α β : Type} {F G : α → β → Prop} : ∀ {xs : List α} {ys : List β}, Paired F xs ys → (∀ x y, y ∈ ys → F x y → G x y) → Paired G xs ys
  | _, _, .nil, _ => .nil
  | _, _, .cons r t, f => .cons (f _ _ List.mem_cons_self r) (paired_right t fun x y h => f x y (List.mem_cons_of_mem _ h))
theorem set_diag {f : Str → Code'} {a : Str} : ∀ {xs : List Str} {i : Nat}, xs.Nodup → xs[i]? = some a → ((xs.map f).map cv).set i (.int 1) = (xs.map fun b => if a = b then some 1 else f b).map cv
  | x :: xs, 0, hn, h => by
    have e : x = a := Option.some.inj h
    subst e
    have hx := (List.nodup_cons.mp hn).1
    show V.int 1 :: (xs.map f).map cv = cv (if x = x then some 1 else f x) :: (xs.map fun b => if x = b then some 1 else f b).map cv
    rw [if_pos rfl]
    congr 2
    refine List.map_congr_left fun b hb => ?_
    have ne : ¬ x = b := fun e => hx (by rw [e]; exact hb)
    rw [if_neg ne]
  | x :: xs, i + 1, hn, h => by
    obtain ⟨hx, hn'⟩ := List.nodup_cons.mp hn
    have h' : xs[i]? = some a := h
    show cv (f x) :: ((xs.map f).map cv).set i (.int 1) = cv (if a = x then some 1 else f x) :: _
    have ne : ¬ a = x := fun e => hx (by rw [← e]; exact List.mem_of_getElem? h')
    rw [set_diag hn' h', if_neg ne]
theorem paired_set {α β : Type} {F G : α → β → Prop} : ∀ {xs : List α} {ys : List β} {i : Nat} {x : α} {y : β}, Paired F xs ys → ys.Nodup → ys[i]? = some y → (∀ x' y', y' ≠ y → F x' y' → G x' y') → G x y → Paired G (xs.set i x) ys
  | [], [], _, _, _, _, _, e, _, _ => by simp at e
  | _ :: _, b :: _, 0, x, y, .cons r t, hn, e, f, g => by
    have e : b = y := Option.some.inj e
    subst e
    exact .cons g (paired_right t fun a c hc h => f a c (fun z => (List.nodup_cons.mp hn).1 (by rw [← z]; exact hc)) h)
  | _ :: _, b :: bs, i + 1, x, y, .cons r t, hn, e, f, g => by
    have e' : bs[i]? = some y := e
    exact .cons (f _ _ (fun z => (List.nodup_cons.mp hn).1 (by rw [z]; exact List.mem_of_getElem? e')) r) (paired_set t (List.nodup_cons.mp hn).2 e' f g)
theorem ixN_ok {n j : Nat} (hj : j < n) : ixN n (j : Int) = some j := by
  unfold ixN
  rw [if_pos (by omega), if_pos (by omega)]
  rfl
section
variable {P : Program} {w : World} {K : PySem.W.Frag} {mg : Str → Option Value} {base : Heap}
def spGridOf (K : PySem.W.Frag) (C : Addr) : Sp := fun vs H Q _ => ∃ (p : Addr) (ns : List Str) (m : List (Pr × Bd)), vs = [.ref p] ∧ Tab K C H p ns m ∧ ∀ (g : Addr) (H' : Hp), Same H H' → H g = none → Grid H' g (gridM ns m) → Q (.ref g) H'
theorem scGridOf : FnScope ["table", "spots", "bounds", "grid", "at", "one", "other"] ["table"] (defScope sGridOf) := ⟨rfl, rfl, rfl, by decide +kernel, rfl, by decide +kernel, by decide +kernel⟩
theorem ok_grid_of {f fc fn fb C : Addr} {fd fdc fdn fdb : FuncData} (F : Fun K "grid_of" "grid_of" sGridOf f fd) (T : TxtT K mg C) (GC : FnOk P w K mg base CX0 1 fc fdc ["bound"] (spCodeOf K)) (bC : Binds K fdc ["bound"] []) (kC : PySem.W.keepIn K (.ref fc) = true) (mC : mg "code_of" = some (.ref fc))
    (GN : FnOk P w K mg base CX0 1 fn fdn ["self"] (spTNames K C)) (bN : Binds K fdn ["self"] []) (hN : Meth K C "names" fn) (GB : FnOk P w K mg base CX0 1 fb fdb ["self"] (spTBounds K C)) (bB : Binds K fdb ["self"] []) (hB : Meth K C "bounds" fb)
    (ml : mg "len" = none) (mr : mg "range" = none) {tk : Tok} (mU : mg "UPTO_ZERO" = some (.int 1 tk)) : FnOk P w K mg base CX0 2 f fd ["table"] (spGridOf K C) := by
  refine F.ok scGridOf (fun vs H Q E h => ?_) (fun cdv A outer s H vs Q E hr h => ?_)
  · obtain ⟨p, ns, m, rfl, _⟩ := h
    rfl
  obtain ⟨p, ns, m, rfl, hT, q⟩ := h
  have hu := hu_of hr
  refine ⟨_, pss_cons (ps_set (i := 1) scGridOf.nd rfl (Or.inr rfl) (pe_op op_cat (pe_lst (pa_cons pe_str pa_nil)) (pe_meth0 (pv 0) T.cl hN GN hr bN .nil pass0)))
    (pss_cons (ps_set (i := 2) scGridOf.nd rfl (Or.inr rfl) (pe_meth0 (pv 0) T.cl hB GB hr bB .nil pass0))
    (pss_cons (ps_setLc (i := 3) (own := [("one", 5)]) (g := gName 5) (te := tLc (iList K (tVar 1)) (gName 6) tYes (tCall (spCodeOf K) [] E0 (tCons (tDGet1 (tVar 2) (tTup (tCons (tVar 5) (tCons (tVar 6) tNil)))) tNil)) [6]) rfl scGridOf.nd rfl rfl (sw_true rfl rfl rfl rfl) (pi_list (pv 1)) (blkOk_by (N := ["table", "spots", "bounds", "grid", "at", "one", "other"]) (sc := defScope sGridOf) (by decide +kernel))
        (fun _ _ _ _ _ => pg_name (i := 5) scGridOf.nd rfl (Or.inr rfl)) (fun _ _ _ _ _ => pts_nil)
        (fun _ _ _ _ _ => pe_lc (own := [("other", 6)]) (g := gName 6) rfl scGridOf.nd (pi_list (pv 1)) (blkOk_by (N := ["table", "spots", "bounds", "grid", "at", "one", "other"]) (by rfl))
          (fun _ _ _ _ _ => pg_name (i := 6) scGridOf.nd rfl (Or.inl rfl)) (fun _ _ _ _ _ => pts_nil) (fun _ _ _ _ _ => pe_call GC hr rfl mC kC bC .nil pass0 (pa_cons (pe_dget1 hu (pv 2) (pe_tup (pa_cons (pv 5) (pa_cons (pv 6) pa_nil))) ⟨rfl, rfl, rfl, rfl⟩) pa_nil))))
    (pss_cons (ps_for PassesOwn.never rfl (pi_range1 rfl mr (pa_cons (pe_callB call_len_seq rfl ml PySem.boot_len (pa_cons (pv 1) pa_nil)) pa_nil)) (pg_name (i := 4) scGridOf.nd rfl (Or.inl rfl))
      (pss_one (ps_asg (pe_glob (v := .int 1) rfl mU ⟨_, rfl⟩) (pg_sub (pe_ix ix_list (pv 3) (pv 4) (fun _ _ => rfl)) (pv 4) set_list))))
    (pss_one (ps_ret (pv 3)))))), ?_⟩
  obtain ⟨ok, dx, l, d, hp, hl, hd⟩ := id hT
  have hlk : ∀ f : Str, ¬ f = "_bounds" → ¬ f = "_names" → (tf l d).lookup f = none := fun f => tf_no
  refine ⟨(by show 1 ≤ sizeLine; decide), fun p1 hp1 => ⟨_, rfl, p, dx, _, rfl, (same_new hp1 _) _ _ hp, hlk _ (by decide +kernel) (by decide +kernel), p, ns, m, rfl, hT.same (same_new hp1 _), fun r hr1 => ?_⟩⟩
  have few := ok.few
  refine ⟨p1, r, _, _, rfl, rfl, (same_new hr1 _) _ _ upd_same, upd_same, ?_, fun sp hsp => ?_⟩
  · rw [List.length_map]
    exact Nat.le_of_lt (small1000 (show 1 + ns.length ≤ 1000 by omega))
  have s1 : Same H (upd (upd (upd H p1 (.lst [.str ""])) r (.lst (ns.map V.str))) sp (.lst ([.str ""] ++ ns.map V.str))) := ((same_new hp1 _).trans (same_new hr1 _)).trans (same_new hsp _)
  have hsp1 : (upd (upd (upd H p1 (.lst [.str ""])) r (.lst (ns.map V.str))) sp (.lst ([.str ""] ++ ns.map V.str))) sp = some (.lst ((spots ns).map V.str)) := upd_same
  generalize upd (upd (upd H p1 (.lst [.str ""])) r (.lst (ns.map V.str))) sp (.lst ([.str ""] ++ ns.map V.str)) = H1 at s1 hsp1
  refine ⟨_, rfl, p, dx, _, rfl, s1 _ _ hp, hlk _ (by decide +kernel) (by decide +kernel), p, ns, m, rfl, hT.same s1, fun bd H2 hbd s2 dt2 => ?_⟩
  have hsp2 := s2 _ _ hsp1
  obtain ⟨kvs, hkd, hpr⟩ := id dt2
  have hsl : ((spots ns).map V.str).length = ns.length + 1 := by rw [List.length_map, List.length_cons]
  refine ⟨_, rfl, sp, rfl, ⟨_, SqL.of hsp2⟩, fun g hg => ?_⟩
  have dT_keep : ∀ {H' : Hp} {q : Addr} {a b : Str}, Same H2 H' → IsPr H' q (a, b) → ∃ o, DGet H' bd (.ref q) o ∧ ((codeM m a b = none ∧ o = none) ∨ ∃ c v, look m (a, b) = some c ∧ o = some v ∧ RW K H' v c) := fun {H' q a b} s h => by
    obtain ⟨o, g1, g2⟩ := (dt2.mono (fun o e => s _ _ e) fun v b r => RW.same r s : DT (RW K) H' bd m).get h
    refine ⟨o, g1, ?_⟩
    rcases g2 with ⟨z1, z2⟩ | ⟨c, v, z1, z2, z3⟩
    · exact .inl ⟨by unfold codeM; rw [z1]; rfl, z2⟩
    · exact .inr ⟨c, v, z1, z2, z3⟩
  refine walk_turns (walk_list (K := K) (a := sp) (xs := (spots ns).map V.str)) (fun i H' => Same H2 H' ∧ ∃ as : List Addr, H' g = some (.lst (as.map V.ref)) ∧ (g :: as).Nodup ∧ (∀ a ∈ as, H2 a = none) ∧ Paired (fun (r : List Code') a => H' a = some (.lst (r.map cv))) (((spots ns).take i).map fun a => (spots ns).map fun b => codeM m a b) as)
    ⟨same_new hg _, [], upd_same, List.nodup_cons.mpr ⟨List.not_mem_nil, List.nodup_nil⟩, (fun _ h => nomatch h), .nil⟩ (fun i H' _ h => h.1.seq (SqL.of hsp2)) ?_ ?_
  · rintro i x H4 H5 hi ⟨s4, as, hg4, hnd4, hfr4, hP4⟩ ⟨rfl, hx⟩
    obtain ⟨a, ha, rfl⟩ := at_map hx
    have hal : as.length ≤ 21 := by
      have z := Paired.length hP4
      rw [List.length_map, List.length_take, List.length_cons] at z
      omega
    refine ⟨rfl, _, rfl, sp, rfl, ⟨_, s4.seq (SqL.of hsp2)⟩, fun D hD => ?_⟩
    refine walk_turns (walk_list (K := K) (a := sp) (xs := (spots ns).map V.str)) (fun j H' => Same H5 H' ∧ H' D = some (.lst (((spots ns).take j).map fun b => cv (codeM m a b))))
      ⟨same_new hD _, upd_same⟩ (fun i H' _ h => (s4.trans h.1).seq (SqL.of hsp2)) ?_ ?_
    · rintro j y H6 H7 hj ⟨s6, hD6⟩ ⟨rfl, hy⟩
      obtain ⟨b, hb, rfl⟩ := at_map hy
      have hlen : (((spots ns).take j).map fun b => cv (codeM m a b)).length < sizeLine := by
        rw [List.length_map, List.length_take, List.length_cons]
        exact small1000 (by omega)
      have fin : ∀ (q : Addr) (H8 : Hp), H8 = upd H7 q (.tup [.str a, .str b]) → H7 q = none → ∃ acc, H8 D = some (.lst acc) ∧ acc.length < sizeLine ∧ Same H5 (upd H8 D (.lst (acc ++ [cv (codeM m a b)]))) ∧ (upd H8 D (.lst (acc ++ [cv (codeM m a b)]))) D = some (.lst (((spots ns).take (j + 1)).map fun b => cv (codeM m a b))) := fun q H8 e hq => by
        subst e
        refine ⟨_, by rw [upd_ne (ne_of_none hD6 hq)]; exact hD6, hlen, fun b' o e => ?_, by rw [upd_same, take_snoc hb, List.map_append]; rfl⟩
        have e2 := s6 _ _ e
        rw [upd_ne (ne_of_none e hD), upd_ne (ne_of_none e2 hq)]
        exact e2
      refine ⟨rfl, _, rfl, bd, rfl, .inr ⟨kvs, .inl (s6 _ _ (s4 _ _ hkd))⟩, _, rfl, _, rfl, (by show 2 ≤ sizeLine; decide), fun q hq => ?_⟩
      obtain ⟨o, g1, g2⟩ := dT_keep (H' := upd H7 q (.tup [.str a, .str b])) (q := q) (a := a) (b := b) ((s4.trans s6).trans (same_new hq _)) upd_same
      refine ⟨o, g1, _, rfl, ?_⟩
      have fn := fin q _ rfl hq
      rcases g2 with ⟨z1, rfl⟩ | ⟨c, v, z1, rfl, t, rfl, hS⟩
      · refine .inl ⟨rfl, ?_⟩
        rw [z1] at fn
        exact fn
      · refine .inr ⟨t, c, rfl, .inr hS, ?_⟩
        have e : codeM m a b = some (codeB c) := by unfold codeM; rw [z1]; rfl
        rw [e] at fn
        exact fn
    · rintro H6 ⟨s6, hD6⟩
      rw [hsl, List.take_of_length_le (Nat.le_of_eq (List.length_cons ..))] at hD6
      have hg6 := s6 _ _ hg4
      refine ⟨as.map V.ref, hg6, by rw [List.length_map]; exact small1000 (by omega), fun b' o e => ?_, as ++ [D], by rw [List.map_append]; exact upd_same, ?_, fun a' ha' => (List.mem_append.mp ha').elim (hfr4 a') (fun z => by rw [List.mem_singleton.mp z]; exact s4.free hD), ?_⟩
      · rw [upd_ne (ne_of_none e hg)]
        exact s6 _ _ (s4 _ _ e)
      · have ngD : g ≠ D := ne_of_none hg4 hD
        obtain ⟨hgn, hnn⟩ := List.nodup_cons.mp hnd4
        refine List.nodup_cons.mpr ⟨fun hm => ?_, List.nodup_append.mpr ⟨hnn, List.pairwise_singleton _ _, fun x hx y hy e => ?_⟩⟩
        · rcases List.mem_append.mp hm with hm | hm
          · exact hgn hm
          · exact ngD (List.mem_singleton.mp hm)
        · rw [List.mem_singleton.mp hy] at e
          subst e
          obtain ⟨k, hk, ek⟩ := List.mem_iff_getElem.mp hx
          obtain ⟨r', _, hr'⟩ := paired_at hP4 (show as[k]? = some x by rw [List.getElem?_eq_getElem hk, ek])
          rw [hD] at hr'
          cases hr'
      · have ngD : g ≠ D := ne_of_none hg4 hD
        rw [take_snoc ha, List.map_append]
        refine Rw.Paired.snoc (paired_right hP4 fun r' a' hm z => ?_) ?_
        · rw [upd_ne fun e => (List.nodup_cons.mp hnd4).1 (by rw [← e]; exact hm)]
          exact s6 _ _ z
        · rw [upd_ne ngD.symm, hD6, List.map_map]
          rfl
  rintro H4 ⟨s4, as, hg4, hnd4, hfr4, hP4⟩
  rw [hsl, List.take_of_length_le (Nat.le_of_eq (List.length_cons ..))] at hP4
  obtain ⟨hgn, hnn⟩ := List.nodup_cons.mp hnd4
  have hal : as.length = ns.length + 1 := by
    have z := Paired.length hP4
    rw [List.length_map, List.length_cons] at z
    exact z.symm
  let R0 : Str → List Code' := fun a => (spots ns).map fun b => codeM m a b
  let R1 : Str → List Code' := fun a => (spots ns).map fun b => if a = b then some 1 else codeM m a b
  have hnn' : (((spots ns).map V.str).length : Int).toNat = ns.length + 1 := by rw [hsl]; rfl
  refine ⟨_, rfl, sp, _, rfl, .inl (s4.seq (SqL.of hsp2)), (((spots ns).map V.str).length : Nat), rfl, by omega, by rw [hsl]; omega, ?_⟩
  rw [hnn']
  refine for_it (walk_range (lo := 0) (n := ns.length + 1)) (fun i σ' H' => (∃ at' : Option V, σ' = [some (.ref p), some (.ref sp), some (.ref bd), some (.ref g), at', none, none]) ∧ Same H2 H' ∧ H' g = some (.lst (as.map V.ref)) ∧ Paired (fun (r : List Code') a => H' a = some (.lst (r.map cv))) (((spots ns).take i).map R1 ++ ((spots ns).drop i).map R0) as)
    ⟨⟨none, rfl⟩, s4, hg4, by rw [List.take_zero, List.drop_zero]; exact hP4⟩ (fun _ _ _ _ _ => True.intro) ?_ ?_
  · rintro i x σ' H5 H6 hi ⟨⟨at', rfl⟩, s5, hg5, hP5⟩ ⟨rfl, hx⟩
    have hx : x = .int (i : Nat) := by
      rw [hx]
      show V.int (0 + (i : Int)) = _
      rw [Int.zero_add]
    subst hx
    have his : i < (spots ns).length := by rw [List.length_cons]; omega
    obtain ⟨a, ha⟩ : ∃ a, (spots ns)[i]? = some a := ⟨_, List.getElem?_eq_getElem his⟩
    obtain ⟨ai, hai⟩ : ∃ ai, as[i]? = some ai := ⟨_, List.getElem?_eq_getElem (by omega)⟩
    have haim : ai ∈ as := List.mem_of_getElem? hai
    have hMl : (((spots ns).take i).map R1).length = i := by rw [List.length_map, List.length_take]; omega
    have hMi : (((spots ns).take i).map R1 ++ ((spots ns).drop i).map R0)[i]? = some (R0 a) := by
      rw [List.getElem?_append_right (by omega), hMl, Nat.sub_self, List.getElem?_map, List.getElem?_drop, Nat.add_zero, ha]
      rfl
    obtain ⟨r', hr', hrow⟩ := paired_at hP5 hai
    rw [hMi] at hr'
    cases hr'
    have ng : ai ≠ g := fun e => hgn (by rw [← e]; exact haim)
    have e1 : (as.map V.ref)[i]? = some (.ref ai) := by rw [List.getElem?_map, hai]; rfl
    have hH2 : H2 ai = none := hfr4 ai haim
    refine ⟨_, rfl, _, rfl, g, as.map V.ref, _, _, rfl, rfl, SqL.of hg5, atI_nat e1, _, rfl, ai, (R0 a).map cv, _, i, rfl, rfl, hrow, ixN_ok (by rw [List.length_map, List.length_map, List.length_cons]; omega), ⟨_, rfl⟩, fun b o e => ?_, ?_, ?_⟩
    · rw [upd_ne (ne_of_none e hH2)]
      exact s5 _ _ e
    · rw [upd_ne ng.symm]
      exact hg5
    · have eM : (((spots ns).take i).map R1 ++ ((spots ns).drop i).map R0).set i (R1 a) = ((spots ns).take (i + 1)).map R1 ++ ((spots ns).drop (i + 1)).map R0 := by
        have hd : (spots ns).drop i = a :: (spots ns).drop (i + 1) := by
          rw [List.drop_eq_getElem_cons his]
          congr 1
          exact (List.getElem?_eq_some_iff.mp ha).2
        rw [List.set_append_right _ _ (by omega), hMl, Nat.sub_self, hd, take_snoc ha, List.map_append, List.map_cons, List.append_assoc]
        rfl
      rw [← eM]
      refine paired_set hP5 hnn hai (fun r' a' n z => by rw [upd_ne n]; exact z) ?_
      rw [upd_same, set_diag ok.nd ha]
  · rintro σ' H5 ⟨⟨at', rfl⟩, s5, hg5, hP5⟩
    rw [List.take_of_length_le (Nat.le_of_eq (List.length_cons ..)), List.drop_eq_nil_of_le (Nat.le_of_eq (List.length_cons ..)), List.map_nil, List.append_nil] at hP5
    have sH : Same H H5 := s1.trans (s2.trans s5)
    refine ⟨_, rfl, q g H5 sH ?_ ⟨as, hg5, hP5⟩⟩
    exact s1.free (s2.free hg)
end
end Rw
set_option Elab.async false
set_option linter.all false
set_option maxRecDepth 100000
set_option maxHeartbeats 8000000
namespace Rw
open PySem L2
def matAt (M : Mat) (i j : Nat) : Code' := ((M[i]?.getD [])[j]?).getD none
/-- what a grid hands on as bounds: row by row, where the spots are unlike -/
def rowM (M : Mat) (ss : List Str) (a : Str) (i k : Nat) : List (Pr × Option Bd) := ((List.range k).filter fun j => decide (i ≠ j)).map fun j => ((a, ss[j]?.getD ""), (matAt M i j).map boundC)
def handM (M : Mat) (ss : List Str) (k : Nat) : List (Pr × Option Bd) := (List.range k).flatMap fun i => rowM M ss (ss[i]?.getD "") i ss.length
/-- the table's own bounds -/
def boundM (ns : List Str) (M : Mat) : List (Pr × Bd) := keptB (handM M (spots ns) (ns.length + 1)) (crossP (spots ns) (spots ns))
theorem rowM_key {M : Mat} {ss : List Str} {a : Str} {i k : Nat} {e : Pr × Option Bd} (h : e ∈ rowM M ss a i k) : ∃ j, j < k ∧ i ≠ j ∧ e.1 = (a, ss[j]?.getD "") ∧ e.2 = (matAt M i j).map boundC := by
  unfold rowM at h
  obtain ⟨j, hj, rfl⟩ := List.mem_map.mp h
  obtain ⟨h1, h2⟩ := List.mem_filter.mp hj
  exact ⟨j, List.mem_range.mp h1, of_decide_eq_true h2, rfl, rfl⟩
theorem handM_key {M : Mat} {ss : List Str} {k : Nat} {e : Pr × Option Bd} (h : e ∈ handM M ss k) : ∃ i j, i < k ∧ j < ss.length ∧ i ≠ j ∧ e.1 = (ss[i]?.getD "", ss[j]?.getD "") ∧ e.2 = (matAt M i j).map boundC := by
  unfold handM at h
  obtain ⟨i, hi, h⟩ := List.mem_flatMap.mp h
  obtain ⟨j, h1, h2, h3, h4⟩ := rowM_key h
  exact ⟨i, j, List.mem_range.mp hi, h1, h2, h3, h4⟩
theorem rowM_len {M : Mat} {ss : List Str} {a : Str} {i k : Nat} : (rowM M ss a i k).length ≤ k := by
  unfold rowM
  rw [List.length_map]
  have z := List.length_filter_le (fun j => decide (i ≠ j)) (List.range k)
  rwa [List.length_range] at z
theorem handM_succ {M : Mat} {ss : List Str} {k : Nat} : handM M ss (k + 1) = handM M ss k ++ rowM M ss (ss[k]?.getD "") k ss.length := by
  unfold handM
  rw [List.range_succ, List.flatMap_append, List.flatMap_cons, List.flatMap_nil, List.append_nil]
theorem handM_len {M : Mat} {ss : List Str} : ∀ {k : Nat}, (handM M ss k).length ≤ k * ss.length
  | 0 => Nat.zero_le _
  | k + 1 => by
    have z := handM_len (M := M) (ss := ss) (k := k)
    have y := rowM_len (M := M) (ss := ss) (a := ss[k]?.getD "") (i := k) (k := ss.length)
    rw [handM_succ, List.length_append, Nat.succ_mul]
    omega
theorem rowM_yes {M : Mat} {ss : List Str} {a : Str} {i j : Nat} (h : i ≠ j) : rowM M ss a i (j + 1) = rowM M ss a i j ++ [((a, ss[j]?.getD ""), (matAt M i j).map boundC)] := by
  unfold rowM
  rw [List.range_succ, List.filter_append, List.map_append]
  simp [h]
theorem rowM_no {M : Mat} {ss : List Str} {a : Str} {i : Nat} : rowM M ss a i (i + 1) = rowM M ss a i i := by
  unfold rowM
  rw [List.range_succ, List.filter_append, List.map_append]
  simp
theorem at_inj {α : Type} {xs : List α} (hn : xs.Nodup) {i j : Nat} {x : α} (hi : xs[i]? = some x) (hj : xs[j]? = some x) : i = j := by
  obtain ⟨h1, e1⟩ := List.getElem?_eq_some_iff.mp hi
  obtain ⟨h2, e2⟩ := List.getElem?_eq_some_iff.mp hj
  exact (List.getElem_inj hn).mp (e1.trans e2.symm)
theorem RO.put {K : PySem.W.Frag} {H : Hp} {d : Addr} {o : HO} {kvs : List (List Key × V)} {v : V} {b : Option Bd} (e : H d = some (.dT kvs)) (h : Rw.RO K H v b) : Rw.RO K (upd H d o) v b := by
  rcases h with h | ⟨bd, a, e1, e2, h⟩
  · exact .inl h
  · refine .inr ⟨bd, a, e1, e2, ?_⟩
    rcases h with ((h | ⟨u, h⟩) | h) | ((h | ⟨u, h⟩) | h)
    · exact .inl (.inl (.inl (by rw [upd_ne (ne_of h e fun z => nomatch z)]; exact h)))
    · exact .inl (.inl (.inr ⟨u, by rw [upd_ne (ne_of h e fun z => nomatch z)]; exact h⟩))
    · exact .inl (.inr h)
    · exact .inr (.inl (.inl (by rw [upd_ne (ne_of h e fun z => nomatch z)]; exact h)))
    · exact .inr (.inl (.inr ⟨u, by rw [upd_ne (ne_of h e fun z => nomatch z)]; exact h⟩))
    · exact .inr (.inr h)
structure Sq (M : Mat) (n : Nat) : Prop where
  rows : M.length = n
  cols : ∀ r ∈ M, r.length = n
theorem Sq.row {M : Mat} {n i : Nat} (h : Sq M n) (hi : i < n) : ∃ r, M[i]? = some r ∧ r.length = n ∧ ∀ j, matAt M i j = (r[j]?).getD none := by
  have hi' : i < M.length := by rw [h.rows]; exact hi
  refine ⟨M[i], List.getElem?_eq_getElem hi', h.cols _ (List.getElem_mem hi'), fun j => ?_⟩
  unfold matAt
  rw [List.getElem?_eq_getElem hi']
  rfl
section
variable {P : Program} {w : World} {K : PySem.W.Frag} {mg : Str → Option Value} {base : Heap}
def spTableOf (K : PySem.W.Frag) (C : Addr) : Sp := fun vs H Q _ => ∃ (l g : Addr) (ns : List Str) (M : Mat), vs = [.ref l, .ref g] ∧ H l = some (.lst (ns.map V.str)) ∧ Grid H g M ∧ Sq M (ns.length + 1) ∧ (spots ns).Nodup ∧ (∀ x ∈ ns, nameB x = true ∧ x.length ≤ 1000) ∧ (∀ x ∈ ns, PyData.strOk x = true) ∧ ns.length ≤ 20 ∧
  ∀ (p : Addr) (H' : Hp), Same H H' → H p = none → Tab K C H' p ns (boundM ns M) → Q (.ref p) H'
end
end Rw
set_option Elab.async false
set_option linter.all false
set_option maxRecDepth 100000
set_option maxHeartbeats 8000000
namespace Rw
open PySem L2
/-! ### a grid shut -/
def stepR (M : Mat) (k : Nat) (r : List Code') (j : Nat) : Code' := tightC ((r[j]?).getD none) (sumC ((r[k]?).getD none) (matAt M k j))
def stepM (n k : Nat) (M : Mat) : Mat := M.map fun r => (List.range n).map (stepR M k r)
def badC : Code' → Bool
  | some c => decide (c < 1)
  | none => false
def negD (n : Nat) (M : Mat) : Bool := (List.range n).any fun i => badC (matAt M i i)
def shutF (n : Nat) : List Nat → Mat → Option Mat
  | [], M => some M
  | k :: ks, M => if negD n (stepM n k M) = true then none else shutF n ks (stepM n k M)
def shutM (n : Nat) (M : Mat) : Option Mat := shutF n (List.range n) M
theorem step_sq {M : Mat} {n k : Nat} (h : Sq M n) : Sq (stepM n k M) n :=
  ⟨by unfold stepM; rw [List.length_map]; exact h.rows, fun r hr => by
    obtain ⟨r', _, rfl⟩ := List.mem_map.mp hr
    rw [List.length_map, List.length_range]⟩
theorem step_at {M : Mat} {n k i j : Nat} (h : Sq M n) (hi : i < n) (hj : j < n) : matAt (stepM n k M) i j = tightC (matAt M i j) (sumC (matAt M i k) (matAt M k j)) := by
  obtain ⟨r, hr, hl, hm⟩ := h.row hi
  have e : matAt (stepM n k M) i j = stepR M k r j := by
    unfold matAt stepM
    rw [List.getElem?_map, hr]
    show (((List.range n).map (stepR M k r))[j]?).getD none = _
    rw [List.getElem?_map, List.getElem?_range hj]
    rfl
  rw [e, hm j, hm k]
  rfl
/-- where a spot meets itself there is a bound -/
def Diag (n : Nat) (M : Mat) : Prop := ∀ i, i < n → ∃ c, matAt M i i = some c
theorem tight_some {x y : Code'} (h : ∃ c, x = some c) : ∃ c, tightC x y = some c := by
  obtain ⟨c, rfl⟩ := h
  cases y with
  | none => exact ⟨c, rfl⟩
  | some d =>
    show ∃ e, (if c < d then some c else some d) = some e
    split
    · exact ⟨_, rfl⟩
    · exact ⟨_, rfl⟩
theorem step_diag {M : Mat} {n k : Nat} (h : Sq M n) (d : Diag n M) : Diag n (stepM n k M) := fun i hi => by
  rw [step_at h hi hi]
  exact tight_some (d i hi)
theorem row_cell {r : List Code'} {n j : Nat} (hl : r.length = n) (hj : j < n) : (r.map cv)[j]? = some (cv ((r[j]?).getD none)) := by
  rw [List.getElem?_map, List.getElem?_eq_getElem (by omega)]
  rfl
theorem Grid.row {H : Hp} {g : Addr} {M : Mat} {n i : Nat} {as : List Addr} (hp : Paired (fun (r : List Code') a => H a = some (.lst (r.map cv))) M as) (hM : Sq M n) (hi : i < n) :
    ∃ r a, M[i]? = some r ∧ as[i]? = some a ∧ (as.map V.ref)[i]? = some (.ref a) ∧ H a = some (.lst (r.map cv)) ∧ r.length = n ∧ ∀ j, matAt M i j = (r[j]?).getD none := by
  obtain ⟨r, hr, hl, hm⟩ := hM.row hi
  have z : i < as.length := by rw [← Paired.length hp, hM.rows]; exact hi
  obtain ⟨r', h1, h2⟩ := paired_at hp (List.getElem?_eq_getElem z)
  rw [hr] at h1
  cases h1
  exact ⟨r, as[i], hr, List.getElem?_eq_getElem z, by rw [List.getElem?_map, List.getElem?_eq_getElem z]; rfl, h2, hl, hm⟩
section
variable {P : Program} {w : World} {K : PySem.W.Frag} {mg : Str → Option Value} {base : Heap}
def spShut : Sp := fun vs H Q _ => ∃ (g : Addr) (M : Mat) (n : Nat), vs = [.ref g] ∧ Grid H g M ∧ Sq M n ∧ n ≤ 21 ∧ Diag n M ∧
  ∀ (v : V) (H' : Hp), Same H H' → ((shutM n M = none ∧ v = .non) ∨ ∃ g' M', shutM n M = some M' ∧ v = .ref g' ∧ Grid H' g' M' ∧ Sq M' n) → Q v H'
theorem scShut : FnScope ["grid", "size", "way", "at", "row"] ["grid"] (defScope sShut) := ⟨rfl, rfl, rfl, by decide +kernel, rfl, by decide +kernel, by decide +kernel⟩
theorem ok_shut {f ft fc : Addr} {fd fdt fdc : FuncData} (F : Fun K "shut" "shut" sShut f fd) (GT : FnOk P w K mg base CX0 1 ft fdt ["one", "other"] spTighter) (GC : FnOk P w K mg base CX0 1 fc fdc ["one", "other"] spCodeSum) (bT : Binds K fdt ["one", "other"] []) (bC : Binds K fdc ["one", "other"] [])
    (kT : PySem.W.keepIn K (.ref ft) = true) (kC : PySem.W.keepIn K (.ref fc) = true) (mT : mg "tighter_code" = some (.ref ft)) (mC : mg "code_sum" = some (.ref fc)) (ml : mg "len" = none) (mr : mg "range" = none) (ma : mg "any" = none) {tk : Tok} (mU : mg "UPTO_ZERO" = some (.int 1 tk)) :
    FnOk P w K mg base CX0 2 f fd ["grid"] spShut := by
  refine F.ok scShut (fun vs H Q E h => ?_) (fun cdv A outer s H vs Q E hr h => ?_)
  · obtain ⟨g, M, n, rfl, _⟩ := h
    rfl
  obtain ⟨g, M, n, rfl, hG, hM, hn, hD, q⟩ := h
  refine ⟨_, pss_cons (ps_set (i := 1) scShut.nd rfl (Or.inr rfl) (pe_callB call_len_seq rfl ml PySem.boot_len (pa_cons (pv 0) pa_nil)))
    (pss_cons (ps_for PassesOwn.never rfl (pi_range1 rfl mr (pa_cons (pv 1) pa_nil)) (pg_name (i := 2) scShut.nd rfl (Or.inr rfl))
      (pss_cons (ps_set (i := 0) scShut.nd rfl (Or.inr rfl) (pe_lc (own := [("row", 4)]) (g := gName 4)
          (te := tLc (iRng1 (tCons (tVar 1) tNil)) (gName 3) tYes (tCall spTighter [] E0 (tCons (tOp (rIxL K) (tVar 4) (tVar 3)) (tCons (tCall spCodeSum [] E0 (tCons (tOp (rIxL K) (tVar 4) (tVar 2)) (tCons (tOp (rIxL K) (tOp (rIxL K) (tVar 0) (tVar 2)) (tVar 3)) tNil))) tNil))) [3])
          rfl scShut.nd (pi_list (pv 0)) (blkOk_by (N := ["grid", "size", "way", "at", "row"]) (sc := defScope sShut) (by decide +kernel))
          (fun _ _ _ _ _ => pg_name (i := 4) scShut.nd rfl (Or.inr rfl)) (fun _ _ _ _ _ => pts_nil)
          (fun _ _ _ _ _ => pe_lc (own := [("at", 3)]) (g := gName 3) rfl scShut.nd (pi_range1 rfl mr (pa_cons (pv 1) pa_nil)) (blkOk_by (N := ["grid", "size", "way", "at", "row"]) (by rfl))
            (fun _ _ _ _ _ => pg_name (i := 3) scShut.nd rfl (Or.inl rfl)) (fun _ _ _ _ _ => pts_nil)
            (fun _ _ _ _ _ => pe_call GT hr rfl mT kT bT .nil pass0 (pa_cons (pe_ix ix_list (pv 4) (pv 3) (fun _ _ => rfl)) (pa_cons (pe_call GC hr rfl mC kC bC .nil pass0 (pa_cons (pe_ix ix_list (pv 4) (pv 2) (fun _ _ => rfl)) (pa_cons (pe_ix ix_list (pe_ix ix_list (pv 0) (pv 2) (fun _ _ => rfl)) (pv 3) (fun _ _ => rfl)) pa_nil))) pa_nil))))))
      (pss_one (ps_if (pt_val (pe_callB (cr_any rfl) rfl ma (by decide +kernel) (pa_cons (pe_lc (own := [("at", 3)]) (g := gName 3) (te := tOp (rI0 fun i j => .bl (decide (i < j))) (tOp (rIxL K) (tOp (rIxL K) (tVar 0) (tVar 3)) (tVar 3)) (tC (.int 1)))
          rfl scShut.nd (pi_range1 rfl mr (pa_cons (pv 1) pa_nil)) (blkOk_by (N := ["grid", "size", "way", "at", "row"]) (sc := defScope sShut) (by decide +kernel)) (fun _ _ _ _ _ => pg_name (i := 3) scShut.nd rfl (Or.inl rfl)) (fun _ _ _ _ _ => pts_nil)
          (fun _ _ _ _ _ => pe_cmpR op_lt (pe_ix ix_list (pe_ix ix_list (pv 0) (pv 3) (fun _ _ => rfl)) (pv 3) (fun _ _ => rfl)) (pe_glob (v := .int 1) rfl mU ⟨_, rfl⟩) (nomark _))) pa_nil))) (pss_one (ps_ret pe_non)) pss_nil))))
    (pss_one (ps_ret (pv 0)))), ?_⟩
  have big : ∀ m : Nat, m ≤ 21 → (-(2 ^ 62) : Int) ≤ ((m : Nat) : Int) ∧ ((m : Nat) : Int) < 2 ^ 62 := fun m hm => ⟨by omega, by omega⟩
  have zi : ∀ {i : Nat} {x : V}, x = (fun i : Nat => V.int (0 + (i : Int))) i → x = .int (i : Nat) := fun {i x} e => by
    rw [e]
    show V.int (0 + (i : Int)) = _
    rw [Int.zero_add]
  obtain ⟨as0, hg0, hP0⟩ := id hG
  have hl0 : (as0.map V.ref).length = n := by rw [List.length_map, ← Paired.length hP0]; exact hM.rows
  refine ⟨_, rfl, g, _, rfl, .inl (SqL.of hg0), ?_⟩
  rw [hl0]
  refine ⟨_, rfl, (n : Nat), rfl, (big n hn).1, (big n hn).2, ?_⟩
  rw [Int.toNat_natCast]
  refine for_it (walk_range (lo := 0) (n := n)) (fun i σ' H' => ∃ (gi : Addr) (Mi : Mat) (way : Option V), σ' = [some (.ref gi), some (.int (n : Nat)), way, none, none] ∧ Same H H' ∧ Grid H' gi Mi ∧ Sq Mi n ∧ Diag n Mi ∧ shutF n ((List.range n).drop i) Mi = shutM n M)
    ⟨g, M, none, rfl, Same.refl _, hG, hM, hD, rfl⟩ (fun _ _ _ _ _ => True.intro) ?_ ?_
  · rintro i x σ' H1 H2 hi ⟨gi, Mi, way, rfl, s1, ⟨as, hg, hP⟩, hMi, hDi, hF⟩ ⟨rfl, hx⟩
    have hx := zi hx
    subst hx
    have hdr : (List.range n).drop i = i :: (List.range n).drop (i + 1) := by
      rw [List.drop_eq_getElem_cons (by rw [List.length_range]; exact hi), List.getElem_range]
    rw [hdr] at hF
    have hasl : (as.map V.ref).length = n := by rw [List.length_map, ← Paired.length hP]; exact hMi.rows
    obtain ⟨rk, ak, hrk, hak, hak', hHk, hrkl, hmk⟩ := Grid.row (H := H2) (g := gi) hP hMi hi
    refine ⟨_, rfl, gi, rfl, ⟨_, SqL.of hg⟩, fun D hD => ?_⟩
    refine walk_turns (walk_list (K := K) (a := gi) (xs := as.map V.ref)) (fun j H' => Same H2 H' ∧ ∃ bs : List Addr, H' D = some (.lst (bs.map V.ref)) ∧ (∀ b ∈ bs, b ≠ D) ∧ Paired (fun (r : List Code') a => H' a = some (.lst (r.map cv))) ((Mi.take j).map fun r => (List.range n).map (stepR Mi i r)) bs)
      ⟨same_new hD _, [], upd_same, (fun _ h => nomatch h), .nil⟩ (fun j H' _ h => h.1.seq (SqL.of hg)) ?_ ?_
    · rintro j y H3 H4 hj ⟨s3, bs, hD3, hbD, hP3⟩ ⟨rfl, hy⟩
      rw [hasl] at hj
      obtain ⟨r, ar, hr', har, har', hHr, hrl, hmr⟩ := Grid.row (H := H2) (g := gi) hP hMi hj
      rw [har'] at hy
      cases hy
      have hbl : bs.length ≤ 21 := by
        have z := Paired.length hP3
        rw [List.length_map, List.length_take] at z
        omega
      refine ⟨rfl, _, rfl, (n : Nat), rfl, (big n hn).1, (big n hn).2, fun D2 hD2 => ?_⟩
      rw [Int.toNat_natCast]
      refine walk_turns (walk_range (lo := 0) (n := n)) (fun c H' => Same H4 H' ∧ H' D2 = some (.lst (((List.range c).map (stepR Mi i r)).map cv))) ⟨same_new hD2 _, upd_same⟩ (fun _ _ _ _ => True.intro) ?_ ?_
      · rintro c z H5 H6 hc ⟨s5, hD5⟩ ⟨rfl, hz⟩
        have hz := zi hz
        subst hz
        have s6 : Same H2 H6 := s3.trans s5
        have r1 : SqL K H6 ar (r.map cv) := SqL.of (s6 _ _ hHr)
        have r2 : SqL K H6 ak (rk.map cv) := SqL.of (s6 _ _ hHk)
        have lt : (((List.range c).map (stepR Mi i r)).map cv).length < sizeLine := by
          rw [List.length_map, List.length_map, List.length_range]
          exact small1000 (by omega)
        refine ⟨rfl, _, rfl, _, rfl, ar, _, _, _, rfl, rfl, r1, atI_nat (row_cell hrl hc), _, rfl, _, rfl, ar, _, _, _, rfl, rfl, r1, atI_nat (row_cell hrl hi), _, rfl, _, rfl, gi, _, _, _, rfl, rfl, SqL.of (s6 _ _ hg), atI_nat hak', _, rfl, ak, _, _, _, rfl, rfl, r2, atI_nat (row_cell hrkl hc), _, _, rfl, _, _, rfl, _, hD5, lt, fun b o e => ?_, ?_⟩
        · rw [upd_ne (ne_of_none e hD2)]
          exact s5 _ _ e
        · rw [upd_same, List.range_succ, List.map_append, List.map_append]
          congr 3
          show [cv _] = [cv (stepR Mi i r c)]
          unfold stepR
          rw [hmk c]
      · rintro H5 ⟨s5, hD5⟩
        have hD3' := s5 _ _ hD3
        have n2 : D ≠ D2 := ne_of_none hD3 hD2
        refine ⟨bs.map V.ref, hD3', by rw [List.length_map]; exact small1000 (by omega), fun b o e => ?_, bs ++ [D2], by rw [List.map_append]; exact upd_same, fun b hb => ?_, ?_⟩
        · rw [upd_ne (ne_of_none e hD)]
          exact s5 _ _ (s3 _ _ e)
        · rcases List.mem_append.mp hb with hb | hb
          · exact hbD b hb
          · rw [List.mem_singleton.mp hb]
            exact n2.symm
        · rw [take_snoc hr', List.map_append]
          refine Rw.Paired.snoc (paired_right hP3 fun r' a' hm z => ?_) ?_
          · rw [upd_ne (hbD a' hm)]
            exact s5 _ _ z
          · rw [upd_ne n2.symm]
            exact hD5
    · rintro H3 ⟨s3, bs, hD3, hbD, hP3⟩
      rw [hasl, List.take_of_length_le (Nat.le_of_eq hMi.rows)] at hP3
      have hP3 : Paired (fun (r : List Code') a => H3 a = some (.lst (r.map cv))) (stepM n i Mi) bs := hP3
      have hM' := step_sq (k := i) hMi
      have hD' := step_diag (k := i) hMi hDi
      refine ⟨_, rfl, (n : Nat), rfl, (big n hn).1, (big n hn).2, fun D3 hD3n => ?_⟩
      rw [Int.toNat_natCast]
      refine walk_turns (walk_range (lo := 0) (n := n)) (fun c H' => Same H3 H' ∧ H' D3 = some (.lst (((List.range c).map fun a => badC (matAt (stepM n i Mi) a a)).map V.bl))) ⟨same_new hD3n _, upd_same⟩ (fun _ _ _ _ => True.intro) ?_ ?_
      · rintro c z H5 H6 hc ⟨s5, hD5⟩ ⟨rfl, hz⟩
        have hz := zi hz
        subst hz
        obtain ⟨r, ar, hr', har, har', hHr, hrl, hmr⟩ := Grid.row (H := H3) (g := D) hP3 hM' hc
        obtain ⟨e, he⟩ := hD' c hc
        have hcell := row_cell hrl hc
        rw [← hmr c, he] at hcell
        have lt : (((List.range c).map fun a => badC (matAt (stepM n i Mi) a a)).map V.bl).length < sizeLine := by
          rw [List.length_map, List.length_map, List.length_range]
          exact small1000 (by omega)
        refine ⟨rfl, _, rfl, _, rfl, D, _, _, _, rfl, rfl, SqL.of (s5 _ _ hD3), atI_nat har', _, rfl, ar, _, _, _, rfl, rfl, SqL.of (s5 _ _ hHr), atI_nat hcell, e, 1, rfl, rfl, _, hD5, lt, fun b o e => ?_, ?_⟩
        · rw [upd_ne (ne_of_none e hD3n)]
          exact s5 _ _ e
        · rw [upd_same, List.range_succ, List.map_append, List.map_append, List.map_cons, List.map_nil, List.map_cons, List.map_nil, he]
          rfl
      · rintro H5 ⟨s5, hD5⟩
        refine ⟨D3, _, rfl, SqL.of hD5, _, rfl, ?_⟩
        have s15 : Same H H5 := s1.trans (s3.trans s5)
        have en : ((List.range n).map fun a => badC (matAt (stepM n i Mi) a a)).any id = negD n (stepM n i Mi) := by
          unfold negD
          rw [List.any_map]
          rfl
        rw [en]
        unfold shutF at hF
        refine ite2 (fun c => ?_) (fun c => ?_)
        · rw [if_pos c] at hF
          exact q .non H5 s15 (.inl ⟨hF.symm, rfl⟩)
        · rw [if_neg c] at hF
          exact ⟨D, stepM n i Mi, _, rfl, s15, ⟨bs, s5 _ _ hD3, Rw.Paired.imp hP3 fun r a _ z => s5 _ _ z⟩, hM', hD', hF⟩
  · rintro σ' H1 ⟨gi, Mi, way, rfl, s1, hGi, hMi, hDi, hF⟩
    rw [List.drop_eq_nil_of_le (Nat.le_of_eq List.length_range)] at hF
    exact ⟨_, rfl, q _ H1 s1 (.inr ⟨gi, Mi, hF.symm, rfl, hGi, hMi⟩)⟩
end
end Rw
set_option Elab.async false
set_option linter.all false
set_option maxRecDepth 100000
set_option maxHeartbeats 8000000
namespace Rw
open PySem L2
abbrev sReplaced : Stmt := top 9999
theorem gridM_sq {ns : List Str} {m : List (Pr × Bd)} : Sq (gridM ns m) (ns.length + 1) :=
  ⟨by unfold gridM; rw [List.length_map, List.length_cons], fun r hr => by
    unfold gridM at hr
    obtain ⟨a, _, rfl⟩ := List.mem_map.mp hr
    rw [List.length_map, List.length_cons]⟩
theorem gridM_at {ns : List Str} {m : List (Pr × Bd)} {i j : Nat} {a b : Str} (ha : (spots ns)[i]? = some a) (hb : (spots ns)[j]? = some b) : matAt (gridM ns m) i j = if a = b then some 1 else codeM m a b := by
  unfold matAt gridM
  rw [List.getElem?_map, ha, Option.map_some, Option.getD_some, List.getElem?_map, hb, Option.map_some, Option.getD_some]
theorem gridM_diag {ns : List Str} {m : List (Pr × Bd)} : Diag (ns.length + 1) (gridM ns m) := fun i hi => by
  have z : i < (spots ns).length := by rw [List.length_cons]; exact hi
  rw [gridM_at (List.getElem?_eq_getElem z) (List.getElem?_eq_getElem z), if_pos rfl]
  exact ⟨1, rfl⟩
def subM (M : Mat) (ps : List Nat) : Mat := ps.map fun i => ps.map fun j => matAt M i j
theorem subM_sq {M : Mat} {ps : List Nat} : Sq (subM M ps) ps.length :=
  ⟨by unfold subM; rw [List.length_map], fun r hr => by
    unfold subM at hr
    obtain ⟨a, _, rfl⟩ := List.mem_map.mp hr
    rw [List.length_map]⟩
section
variable {P : Program} {w : World} {K : PySem.W.Frag} {mg : Str → Option Value} {base : Heap}
def spClosed (K : PySem.W.Frag) (C : Addr) : Sp := fun vs H Q _ => ∃ (p : Addr) (ns : List Str) (m : List (Pr × Bd)), vs = [.ref p] ∧ Tab K C H p ns m ∧
  ∀ (v : V) (H' : Hp), Same H H' → ((shutM (ns.length + 1) (gridM ns m) = none ∧ v = .non) ∨ ∃ g' M', shutM (ns.length + 1) (gridM ns m) = some M' ∧ v = .ref g' ∧ Grid H' g' M' ∧ Sq M' (ns.length + 1)) → Q v H'
theorem scClosed : FnScope ["table"] ["table"] (defScope sClosedGrid) := ⟨rfl, rfl, rfl, by decide +kernel, rfl, by decide +kernel, by decide +kernel⟩
theorem ok_closed_grid {f fs fg C : Addr} {fd fds fdg : FuncData} (F : Fun K "closed_grid" "closed_grid" sClosedGrid f fd) (GS : FnOk P w K mg base CX0 2 fs fds ["grid"] spShut) (GG : FnOk P w K mg base CX0 2 fg fdg ["table"] (spGridOf K C)) (bS : Binds K fds ["grid"] []) (bG : Binds K fdg ["table"] [])
    (kS : PySem.W.keepIn K (.ref fs) = true) (kG : PySem.W.keepIn K (.ref fg) = true) (mS : mg "shut" = some (.ref fs)) (mG : mg "grid_of" = some (.ref fg)) : FnOk P w K mg base CX0 3 f fd ["table"] (spClosed K C) := by
  refine F.ok scClosed (fun vs H Q E h => ?_) (fun cdv A outer s H vs Q E hr h => ?_)
  · obtain ⟨p, ns, m, rfl, _⟩ := h
    rfl
  obtain ⟨p, ns, m, rfl, hT, q⟩ := h
  refine ⟨_, pss_one (ps_ret (pe_call GS hr rfl mS kS bS .nil pass0 (pa_cons (pe_call GG hr rfl mG kG bG .nil pass0 (pa_cons (pv 0) pa_nil)) pa_nil))), ?_⟩
  refine ⟨_, rfl, p, ns, m, rfl, hT, fun g H1 s1 hg hG => ⟨g, _, _, rfl, hG, gridM_sq, by have := hT.1.few; omega, gridM_diag, fun v H2 s2 h => q v H2 (s1.trans s2) h⟩⟩
/-- a table about other names, by the places whose spots they take over -/
def spReplaced (K : PySem.W.Frag) (C : Addr) : Sp := fun vs H Q _ => ∃ (p l a : Addr) (ns ms : List Str) (m : List (Pr × Bd)) (ps : List Nat), vs = [.ref p, .ref l, .ref a] ∧ Tab K C H p ns m ∧ H l = some (.lst (ms.map V.str)) ∧ H a = some (.lst (ps.map fun i => V.int (i : Nat))) ∧ ps.length = ms.length ∧ (∀ i ∈ ps, i ≤ ns.length) ∧
  (spots ms).Nodup ∧ (∀ x ∈ ms, nameB x = true ∧ x.length ≤ 1000) ∧ (∀ x ∈ ms, PyData.strOk x = true) ∧ ms.length ≤ 20 ∧
  ∀ (v : V) (H' : Hp), Same H H' → ((shutM (ns.length + 1) (gridM ns m) = none ∧ v = .non) ∨ ∃ t M', shutM (ns.length + 1) (gridM ns m) = some M' ∧ v = .ref t ∧ Tab K C H' t ms (boundM ms (subM M' (0 :: ps)))) → Q v H'
end
end Rw
set_option Elab.async false
set_option linter.all false
set_option maxRecDepth 100000
set_option maxHeartbeats 4000000
namespace Rw
open PySem L2
/-! ### sums of codes along ways -/
def leC (x y : Code') : Prop := ∀ b, y = some b → ∃ a, x = some a ∧ a ≤ b
theorem leC_refl (x : Code') : leC x x := fun b h => ⟨b, h, Int.le_refl _⟩
theorem leC_none (x : Code') : leC x none := fun b h => by cases h
theorem leC_trans {x y z : Code'} (h : leC x y) (g : leC y z) : leC x z := fun b e => by
  obtain ⟨a, ha, h1⟩ := g b e
  obtain ⟨c, hc, h2⟩ := h a ha
  exact ⟨c, hc, Int.le_trans h2 h1⟩
theorem leC_anti {x y : Code'} (h : leC x y) (g : leC y x) : x = y := by
  cases x with
  | none =>
    cases y with
    | none => rfl
    | some b =>
      obtain ⟨a, ha, _⟩ := h b rfl
      cases ha
  | some a =>
    obtain ⟨b, hb, h1⟩ := g a rfl
    obtain ⟨a', ha, h2⟩ := h b hb
    cases ha
    rw [hb]
    congr 1
    omega
theorem tight_l (x y : Code') : leC (tightC x y) x := fun b e => by
  subst e
  cases y with
  | none => exact ⟨b, rfl, Int.le_refl _⟩
  | some c =>
    show ∃ a, (if b < c then some b else some c) = some a ∧ a ≤ b
    split
    · exact ⟨b, rfl, Int.le_refl _⟩
    · exact ⟨c, rfl, by omega⟩
theorem tight_r (x y : Code') : leC (tightC x y) y := fun b e => by
  subst e
  cases x with
  | none => exact ⟨b, rfl, Int.le_refl _⟩
  | some c =>
    show ∃ a, (if c < b then some c else some b) = some a ∧ a ≤ b
    split
    · exact ⟨c, rfl, by omega⟩
    · exact ⟨b, rfl, Int.le_refl _⟩
theorem tight_or (x y : Code') : tightC x y = x ∨ tightC x y = y := by
  cases x with
  | none => exact .inr rfl
  | some a =>
    cases y with
    | none => exact .inl rfl
    | some b =>
      show (if a < b then some a else some b) = some a ∨ (if a < b then some a else some b) = some b
      split
      · exact .inl rfl
      · exact .inr rfl
theorem le_tight {x y z : Code'} (h : leC z x) (g : leC z y) : leC z (tightC x y) := by
  rcases tight_or x y with e | e
  · rw [e]; exact h
  · rw [e]; exact g
theorem sum_one_l (x : Code') : sumC (some 1) x = x := by
  cases x with
  | none => rfl
  | some a =>
    show (if (1 : Int) % 2 = 1 ∨ a % 2 = 1 then some (1 + a - 1) else some (1 + a)) = some a
    rw [if_pos (.inl (by decide))]
    congr 1
    omega
theorem sum_one_r (x : Code') : sumC x (some 1) = x := by
  cases x with
  | none => rfl
  | some a =>
    show (if a % 2 = 1 ∨ (1 : Int) % 2 = 1 then some (a + 1 - 1) else some (a + 1)) = some a
    rw [if_pos (.inr (by decide))]
    congr 1
    omega
theorem sum_none_r (x : Code') : sumC x none = none := by cases x <;> rfl
def addC (a b : Int) : Int := if a % 2 = 1 ∨ b % 2 = 1 then a + b - 1 else a + b
theorem sum_some (a b : Int) : sumC (some a) (some b) = some (addC a b) := by
  show (if a % 2 = 1 ∨ b % 2 = 1 then some (a + b - 1) else some (a + b)) = some (if a % 2 = 1 ∨ b % 2 = 1 then a + b - 1 else a + b)
  split <;> rfl
theorem addC_mono {a a' b b' : Int} (h : a ≤ a') (g : b ≤ b') : addC a b ≤ addC a' b' := by
  unfold addC
  split <;> split <;> omega
theorem addC_assoc (a b c : Int) : addC (addC a b) c = addC a (addC b c) := by
  unfold addC
  split <;> split <;> split <;> split <;> omega
theorem sum_assoc (x y z : Code') : sumC (sumC x y) z = sumC x (sumC y z) := by
  cases x with
  | none => rfl
  | some a =>
    cases y with
    | none => rfl
    | some b =>
      cases z with
      | none => rw [sum_none_r, sum_none_r, sum_none_r]
      | some c => rw [sum_some, sum_some, sum_some, sum_some, addC_assoc]
theorem sum_mono {x x' y y' : Code'} (h : leC x x') (g : leC y y') : leC (sumC x y) (sumC x' y') := fun b e => by
  cases x' with
  | none => cases e
  | some a' =>
    cases y' with
    | none => cases e
    | some b' =>
      obtain ⟨a, ha, h1⟩ := h a' rfl
      obtain ⟨c, hc, h2⟩ := g b' rfl
      subst ha hc
      rw [sum_some] at e
      cases e
      exact ⟨addC a c, sum_some a c, addC_mono h1 h2⟩
section
variable {α : Type} (c : α → α → Code')
/-- what a way adds up to -/
def val : List α → Code'
  | [] => none
  | [_] => some 1
  | x :: y :: r => sumC (c x y) (val (y :: r))
theorem val_cons {x y : α} {r : List α} : val c (x :: y :: r) = sumC (c x y) (val c (y :: r)) := by rw [val]
theorem val_append : ∀ (p : List α) (x : α) (r : List α), val c (p ++ x :: r) = sumC (val c (p ++ [x])) (val c (x :: r))
  | [], x, r => by
    show val c (x :: r) = sumC (some 1) _
    rw [sum_one_l]
  | [y], x, r => by
    show val c (y :: x :: r) = sumC (val c (y :: [x])) _
    rw [val_cons, val_cons]
    show _ = sumC (sumC (c y x) (some 1)) _
    rw [sum_one_r]
  | y :: z :: p, x, r => by
    have ih := val_append (z :: p) x r
    show val c (y :: z :: (p ++ x :: r)) = sumC (val c (y :: z :: (p ++ [x]))) _
    rw [val_cons, val_cons, sum_assoc]
    congr 1
end
/-- no way round that bars, of fewer than N steps -/
def Calm {α : Type} (c : α → α → Code') (N : Nat) : Prop := ∀ (x : α) (p : List α), (x :: p).length < N → (x :: p).getLast? = some x → leC (some 1) (val c (x :: p))
section
variable {α : Type} [DecidableEq α] (c : α → α → Code')
/-- the law's least way -/
def wayC : Nat → α → α → List α → Code'
  | 0, _, _, _ => none
  | k + 1, h, g, L => L.foldl (fun acc x => tightC acc (sumC (c h x) (wayC k x g (L.filter fun y => decide (y ≠ x))))) (c h g)
theorem fold_le {β : Type} {f : β → Code'} : ∀ {L : List β} {a : Code'}, leC (L.foldl (fun acc x => tightC acc (f x)) a) a ∧ ∀ x ∈ L, leC (L.foldl (fun acc x => tightC acc (f x)) a) (f x)
  | [], a => ⟨leC_refl a, fun _ h => nomatch h⟩
  | y :: L, a => by
    obtain ⟨h1, h2⟩ := fold_le (f := f) (L := L) (a := tightC a (f y))
    refine ⟨leC_trans h1 (tight_l _ _), fun x hx => ?_⟩
    rcases List.mem_cons.mp hx with rfl | hx
    · exact leC_trans h1 (tight_r _ _)
    · exact h2 x hx
theorem fold_or {β : Type} {f : β → Code'} : ∀ {L : List β} {a : Code'}, L.foldl (fun acc x => tightC acc (f x)) a = a ∨ ∃ x ∈ L, L.foldl (fun acc x => tightC acc (f x)) a = f x
  | [], a => .inl rfl
  | y :: L, a => by
    rcases fold_or (f := f) (L := L) (a := tightC a (f y)) with h | ⟨x, hx, h⟩
    · rcases tight_or a (f y) with e | e
      · exact .inl (h.trans e)
      · exact .inr ⟨y, List.mem_cons_self, h.trans e⟩
    · exact .inr ⟨x, List.mem_cons_of_mem _ hx, h⟩
/-- the law's least way is a way -/
theorem way_is : ∀ (k : Nat) (h g : α) (L : List α) (v : Int), wayC c k h g L = some v → ∃ p, (h :: p).getLast? = some g ∧ val c (h :: p) = some v ∧ ∀ x ∈ p, x = g ∨ x ∈ L
  | 0, _, _, _, v, e => by cases e
  | k + 1, h, g, L, v, e => by
    rw [wayC] at e
    rcases fold_or (f := fun x => sumC (c h x) (wayC c k x g (L.filter fun y => decide (y ≠ x)))) (L := L) (a := c h g) with z | ⟨x, hx, z⟩
    · rw [z] at e
      refine ⟨[g], rfl, ?_, fun x hx => .inl (List.mem_singleton.mp hx)⟩
      rw [val_cons, e]
      show sumC (some v) (some 1) = _
      rw [sum_one_r]
    · rw [z] at e
      have e : sumC (c h x) (wayC c k x g (L.filter fun y => decide (y ≠ x))) = some v := e
      cases hc : c h x with
      | none => rw [hc] at e; cases e
      | some a =>
        cases hw : wayC c k x g (L.filter fun y => decide (y ≠ x)) with
        | none => rw [hc, hw] at e; cases e
        | some b =>
          obtain ⟨p, h1, h2, h3⟩ := way_is k x g _ b hw
          refine ⟨x :: p, ?_, ?_, fun y hy => ?_⟩
          · rw [List.getLast?_cons_cons]
            exact h1
          · rw [val_cons, h2, ← hw]
            exact e
          · rcases List.mem_cons.mp hy with rfl | hy
            · exact .inr hx
            · exact (h3 y hy).imp id fun z => (List.mem_filter.mp z).1
theorem split_last {x : α} : ∀ {p : List α}, x ∈ p → ∃ q r, p = q ++ x :: r ∧ x ∉ r
  | y :: p, h => by
    by_cases hp : x ∈ p
    · obtain ⟨q, r, e, hr⟩ := split_last hp
      exact ⟨y :: q, r, by rw [e]; rfl, hr⟩
    · rcases List.mem_cons.mp h with rfl | h
      · exact ⟨[], p, rfl, hp⟩
      · exact absurd h hp
theorem le_round {x : Code'} {y : Code'} (h : leC (some 1) x) : leC y (sumC x y) := by
  have z := sum_mono h (leC_refl y)
  rw [sum_one_l] at z
  exact z
theorem le_round' {x : Code'} {y : Code'} (h : leC (some 1) x) : leC y (sumC y x) := by
  have z := sum_mono (leC_refl y) h
  rw [sum_one_r] at z
  exact z
/-- where no shorter way round bars, no way is shorter than the law's least -/
theorem way_least {N : Nat} (hN : Calm c N) : ∀ (k : Nat) (L : List α), L.length < k → ∀ (h g : α) (p : List α), h ≠ g → (h :: p).getLast? = some g → (h :: p).length < N → (∀ x ∈ p, x = h ∨ x = g ∨ x ∈ L) → leC (wayC c k h g L) (val c (h :: p))
  | 0, L, hk, _, _, _, _, _, _, _ => absurd hk (Nat.not_lt_zero _)
  | k + 1, L, hk, h, g, p, hne, hl, hlen, hin => by
    obtain ⟨q, r, e, hr⟩ := split_last (x := h) (p := h :: p) List.mem_cons_self
    have ev : val c (h :: p) = sumC (val c (q ++ [h])) (val c (h :: r)) := by rw [e, val_append]
    have hcl : leC (some 1) (val c (q ++ [h])) := by
      cases q with
      | nil => exact leC_refl _
      | cons y q' =>
        have e1 : y = h := by
          have z := e
          rw [List.cons_append] at z
          injection z with z _
          exact z.symm
        subst e1
        have hz : (y :: q' ++ [y]).length ≤ (y :: p).length := by
          rw [e]
          simp only [List.length_append, List.length_cons, List.length_nil]
          omega
        exact hN y (q' ++ [y]) (Nat.lt_of_le_of_lt hz hlen) (by rw [← List.cons_append, List.getLast?_append]; rfl)
    refine leC_trans ?_ (by rw [ev]; exact le_round hcl)
    have hl' : (h :: r).getLast? = some g := by
      rw [e, List.getLast?_append] at hl
      have z : (h :: r).getLast? ≠ none := by simp
      cases hz : (h :: r).getLast? with
      | none => exact absurd hz z
      | some y =>
        rw [hz] at hl
        exact hl
    have hlen' : (h :: r).length ≤ (h :: p).length := by
      rw [e, List.length_append]
      omega
    cases r with
    | nil =>
      have z : some h = some g := hl'
      exact absurd (Option.some.inj z) hne
    | cons x r' =>
      rw [List.getLast?_cons_cons] at hl'
      have hxp : ∀ y ∈ x :: r', y ∈ p := fun y hy => by
        have z : y ∈ h :: p := by
          rw [e]
          exact List.mem_append_right _ (List.mem_cons_of_mem _ hy)
        rcases List.mem_cons.mp z with rfl | z
        · exact absurd hy hr
        · exact z
      have hin' : ∀ y ∈ x :: r', y = g ∨ y ∈ L := fun y hy => (hin y (hxp y hy)).resolve_left fun z => hr (z ▸ hy)
      rw [val_cons, wayC]
      have hf := fold_le (f := fun x => sumC (c h x) (wayC c k x g (L.filter fun y => decide (y ≠ x)))) (L := L) (a := c h g)
      by_cases hxg : x = g
      · subst hxg
        refine leC_trans hf.1 (le_round' ?_)
        refine hN x r' ?_ hl'
        simp only [List.length_cons] at hlen' hlen ⊢
        omega
      · have hxL : x ∈ L := (hin' x List.mem_cons_self).resolve_left hxg
        refine leC_trans (hf.2 x hxL) (sum_mono (leC_refl _) ?_)
        have hLl : (L.filter fun y => decide (y ≠ x)).length < L.length := by
          have := List.length_filter_lt_length_iff_exists (p := fun y => decide (y ≠ x)) (l := L) |>.mpr ⟨x, hxL, by simp⟩
          exact this
        refine way_least hN k _ (by omega) x g r' hxg hl' ?_ fun y hy => ?_
        · simp only [List.length_cons] at hlen' hlen ⊢
          omega
        · by_cases hyx : y = x
          · exact .inl hyx
          · exact .inr ((hin' y (List.mem_cons_of_mem _ hy)).imp id fun z => List.mem_filter.mpr ⟨z, decide_eq_true hyx⟩)
end
end Rw
set_option Elab.async false
set_option linter.all false
set_option maxRecDepth 100000
set_option maxHeartbeats 4000000
namespace Rw
open PySem L2
theorem badC_le {x y : Code'} (h : leC x y) (g : badC y = true) : badC x = true := by
  cases y with
  | none => cases g
  | some b =>
    obtain ⟨a, rfl, h1⟩ := h b rfl
    have g : b < 1 := of_decide_eq_true g
    exact decide_eq_true (show a < 1 by omega)
theorem calm_of {x : Code'} (h : ¬ badC x = true) : leC (some 1) x := fun b e => by
  subst e
  have h : ¬ b < 1 := fun z => h (decide_eq_true z)
  exact ⟨1, rfl, by omega⟩
theorem not_bad {x : Code'} (h : leC (some 1) x) : ¬ badC x = true := fun g => by
  cases x with
  | none => cases g
  | some b =>
    obtain ⟨a, ha, h1⟩ := h b rfl
    cases ha
    have g : b < 1 := of_decide_eq_true g
    omega
section
variable {α : Type} [DecidableEq α] (c : α → α → Code') (ss : List α)
/-- those of all that are neither -/
def others (h g : α) : List α := ss.filter fun x => decide (x ≠ h ∧ x ≠ g)
def W (h g : α) : Code' := wayC c ((others ss h g).length + 1) h g (others ss h g)
/-- the law's word: two lie so that the way there and back bars -/
def LawBad : Prop := ∃ a b, a ∈ ss ∧ b ∈ ss ∧ a ≠ b ∧ badC (sumC (W c ss a b) (W c ss b a)) = true
/-- there are bounds between two of these alone, unlike -/
def Edge : Prop := ∀ x y v, c x y = some v → x ∈ ss ∧ y ∈ ss ∧ x ≠ y
theorem val_in {c : α → α → Code'} {ss : List α} (hE : Edge c ss) : ∀ {p : List α} {x y : α} {v : Int}, val c (x :: y :: p) = some v → ∀ z ∈ x :: y :: p, z ∈ ss
  | [], x, y, v, h => by
    rw [val_cons] at h
    cases hc : c x y with
    | none => rw [hc] at h; cases h
    | some a =>
      obtain ⟨h1, h2, _⟩ := hE x y a hc
      intro z hz
      rcases List.mem_cons.mp hz with rfl | hz
      · exact h1
      · rw [List.mem_singleton.mp hz]
        exact h2
  | w :: p, x, y, v, h => by
    rw [val_cons] at h
    cases hc : c x y with
    | none => rw [hc] at h; cases h
    | some a =>
      cases hv : val c (y :: w :: p) with
      | none => rw [hc, hv, sum_none_r] at h; cases h
      | some b =>
        intro z hz
        rcases List.mem_cons.mp hz with rfl | hz
        · exact (hE _ y a hc).1
        · exact val_in hE hv z hz
theorem way_small {c : α → α → Code'} {ss : List α} (hE : Edge c ss) {N : Nat} (hN : Calm c N) {h g : α} {p : List α} (hne : h ≠ g) (hl : (h :: p).getLast? = some g) (hlen : (h :: p).length < N) : leC (W c ss h g) (val c (h :: p)) := by
  cases hv : val c (h :: p) with
  | none => exact leC_none _
  | some v =>
    rw [← hv]
    refine way_least c hN _ _ (Nat.lt_succ_self _) h g p hne hl hlen fun x hx => ?_
    cases p with
    | nil => cases hx
    | cons y p =>
      have hs := val_in hE hv x (List.mem_cons_of_mem _ hx)
      by_cases h1 : x = h
      · exact .inl h1
      · by_cases h2 : x = g
        · exact .inr (.inl h2)
        · exact .inr (.inr (List.mem_filter.mpr ⟨hs, decide_eq_true ⟨h1, h2⟩⟩))
theorem way_first (h g : α) : leC (W c ss h g) (c h g) := by
  unfold W
  rw [wayC]
  exact fold_le.1
/-- a way round that bars is seen between two -/
theorem bad_two {c : α → α → Code'} {ss : List α} (hE : Edge c ss) : ∀ (N : Nat) (x : α) (p : List α), (x :: p).length = N → (x :: p).getLast? = some x → badC (val c (x :: p)) = true → LawBad c ss := by
  intro N
  induction N using Nat.strongRecOn with
  | _ N ih =>
    intro x p hlen hl hb
    by_cases hN : Calm c N
    · cases p with
      | nil =>
        have hb : badC (some 1) = true := hb
        exact absurd hb (by decide)
      | cons y r =>
        rw [val_cons] at hb
        cases hc : c x y with
        | none => rw [hc] at hb; cases hb
        | some a =>
          obtain ⟨h1, h2, h3⟩ := hE x y a hc
          rw [List.getLast?_cons_cons] at hl
          refine ⟨x, y, h1, h2, h3, badC_le (sum_mono (way_first c ss x y) (way_small hE hN (fun z => h3 z.symm) hl ?_)) hb⟩
          rw [← hlen]
          simp
    · unfold Calm at hN
      simp only [Classical.not_forall] at hN
      obtain ⟨y, q, h1, h2, h3⟩ := hN
      have hb' : badC (val c (y :: q)) = true := by
        cases hb' : badC (val c (y :: q)) with
        | true => rfl
        | false => exact absurd (calm_of (by rw [hb']; exact Bool.false_ne_true)) h3
      exact ih _ h1 y q rfl h2 hb'
/-- where the law finds nothing, no way round bars -/
theorem calm_all {c : α → α → Code'} {ss : List α} (hE : Edge c ss) (h : ¬ LawBad c ss) (N : Nat) : Calm c N := fun x p _ hl => calm_of fun hb => h (bad_two hE _ x p rfl hl hb)
theorem join_last {p q : List α} {x : α} (hp : p.getLast? = some x) : ∃ r, p = r ++ [x] := by
  have h : p ≠ [] := fun e => by rw [e] at hp; cases hp
  refine ⟨p.dropLast, ?_⟩
  have z := List.dropLast_concat_getLast h
  rw [List.getLast?_eq_some_getLast h] at hp
  rw [← Option.some.inj hp]
  exact z.symm
/-- a way from one to another that adds up to v -/
def Way (a b : α) (v : Int) : Prop := ∃ p, (a :: p).getLast? = some b ∧ val c (a :: p) = some v
theorem Way.join {c : α → α → Code'} {a b d : α} {v u : Int} (h : Way c a b v) (g : Way c b d u) : Way c a d (addC v u) := by
  obtain ⟨p, h1, h2⟩ := h
  obtain ⟨q, g1, g2⟩ := g
  obtain ⟨r, e⟩ := join_last (q := []) h1
  cases r with
  | nil =>
    have e : a :: p = [b] := e
    injection e with e1 e2
    subst e1 e2
    have h2 : some 1 = some v := h2
    cases h2
    refine ⟨q, g1, ?_⟩
    rw [g2]
    have z := sum_one_l (some u)
    rw [sum_some] at z
    exact z.symm
  | cons y r =>
    have e1 : a = y := by
      rw [List.cons_append] at e
      injection e
    subst e1
    refine ⟨r ++ b :: q, ?_, ?_⟩
    · rw [← List.cons_append, List.getLast?_append]
      cases hz : (b :: q).getLast? with
      | none => simp at hz
      | some z => rw [← hz, g1]; rfl
    · rw [← List.cons_append, val_append, ← e, h2, g2, sum_some]
end
end Rw
set_option Elab.async false
set_option linter.all false
set_option maxRecDepth 100000
set_option maxHeartbeats 4000000
namespace Rw
open PySem L2
section
variable {c : Str → Str → Code'} {ss : List Str} {n : Nat} {M0 : Mat}
/-- what holds of a grid when the first k spots have been gone through -/
structure Mid (c : Str → Str → Code') (ss : List Str) (n : Nat) (M0 M : Mat) (k : Nat) : Prop where
  sq : Sq M n
  diag : ∀ i, i < n → matAt M i i = some 1
  snd : ∀ i j a b v, ss[i]? = some a → ss[j]? = some b → matAt M i j = some v → Way c a b v
  dec : ∀ i j, i < n → j < n → leC (matAt M i j) (matAt M0 i j)
  tri : ∀ l, l < k → ∀ i j, i < n → j < n → leC (matAt M i j) (sumC (matAt M i l) (matAt M l j))
theorem Mid.start (hn : ss.length = n) (hM : Sq M0 n) (hat : ∀ i j a b, ss[i]? = some a → ss[j]? = some b → matAt M0 i j = if a = b then some 1 else c a b) : Mid c ss n M0 M0 0 := by
  refine ⟨hM, fun i hi => ?_, fun i j a b v ha hb hv => ?_, fun i j _ _ => leC_refl _, fun l hl => absurd hl (Nat.not_lt_zero _)⟩
  · have z : i < ss.length := by omega
    rw [hat i i _ _ (List.getElem?_eq_getElem z) (List.getElem?_eq_getElem z), if_pos rfl]
  · rw [hat i j a b ha hb] at hv
    by_cases e : a = b
    · rw [if_pos e] at hv
      subst e
      exact ⟨[], rfl, hv⟩
    · rw [if_neg e] at hv
      refine ⟨[b], rfl, ?_⟩
      rw [val_cons, hv]
      show sumC (some v) (some 1) = _
      rw [sum_one_r]
theorem Mid.way {M : Mat} {k : Nat} (h : Mid c ss n M0 M k) (hn : ss.length = n) (hk : k < n) {i j : Nat} {a b : Str} {v : Int} (ha : ss[i]? = some a) (hb : ss[j]? = some b) (hv : matAt (stepM n k M) i j = some v) : Way c a b v := by
  have hi : i < n := by have := (List.getElem?_eq_some_iff.mp ha).1; omega
  have hj : j < n := by have := (List.getElem?_eq_some_iff.mp hb).1; omega
  rw [step_at h.sq hi hj] at hv
  rcases tight_or (matAt M i j) (sumC (matAt M i k) (matAt M k j)) with e | e
  · rw [e] at hv
    exact h.snd i j a b v ha hb hv
  · rw [e] at hv
    have hkk : ss[k]? = some ss[k] := List.getElem?_eq_getElem (by omega)
    cases h1 : matAt M i k with
    | none => rw [h1] at hv; cases hv
    | some x =>
      cases h2 : matAt M k j with
      | none => rw [h1, h2] at hv; cases hv
      | some y =>
        rw [h1, h2, sum_some] at hv
        cases hv
        exact (h.snd i k _ _ x ha hkk h1).join (h.snd k j _ _ y hkk hb h2)
theorem Mid.bad {M : Mat} {k : Nat} (h : Mid c ss n M0 M k) (hn : ss.length = n) (hE : Edge c ss) (hk : k < n) (hb : negD n (stepM n k M) = true) : LawBad c ss := by
  unfold negD at hb
  obtain ⟨i, hi, hb⟩ := List.any_eq_true.mp hb
  have hi := List.mem_range.mp hi
  have hii : ss[i]? = some ss[i] := List.getElem?_eq_getElem (by omega)
  cases hv : matAt (stepM n k M) i i with
  | none => rw [hv] at hb; cases hb
  | some v =>
    obtain ⟨p, h1, h2⟩ := h.way hn hk hii hii hv
    rw [hv, ← h2] at hb
    exact bad_two hE _ _ p rfl h1 hb
theorem Mid.next {M : Mat} {k : Nat} (h : Mid c ss n M0 M k) (hn : ss.length = n) (hk : k < n) (hb : ¬ negD n (stepM n k M) = true) : Mid c ss n M0 (stepM n k M) (k + 1) := by
  have at' : ∀ {i j : Nat}, i < n → j < n → matAt (stepM n k M) i j = tightC (matAt M i j) (sumC (matAt M i k) (matAt M k j)) := fun hi hj => step_at h.sq hi hj
  have lel : ∀ {i j : Nat}, i < n → j < n → leC (matAt (stepM n k M) i j) (matAt M i j) := fun hi hj => by rw [at' hi hj]; exact tight_l _ _
  have ler : ∀ {i j : Nat}, i < n → j < n → leC (matAt (stepM n k M) i j) (sumC (matAt M i k) (matAt M k j)) := fun hi hj => by rw [at' hi hj]; exact tight_r _ _
  have e1 : ∀ {i : Nat}, i < n → matAt (stepM n k M) i k = matAt M i k := fun {i} hi => by
    rw [at' hi hk, h.diag k hk, sum_one_r]
    rcases tight_or (matAt M i k) (matAt M i k) with e | e <;> exact e
  have e2 : ∀ {j : Nat}, j < n → matAt (stepM n k M) k j = matAt M k j := fun {j} hj => by
    rw [at' hk hj, h.diag k hk, sum_one_l]
    rcases tight_or (matAt M k j) (matAt M k j) with e | e <;> exact e
  refine ⟨step_sq h.sq, fun i hi => ?_, fun i j a b v ha hb' hv => h.way hn hk ha hb' hv, fun i j hi hj => leC_trans (lel hi hj) (h.dec i j hi hj), fun l hl i j hi hj => ?_⟩
  · have h1 : leC (matAt (stepM n k M) i i) (some 1) := by
      rw [← h.diag i hi]
      exact lel hi hi
    refine leC_anti h1 (calm_of fun hbad => hb ?_)
    unfold negD
    exact List.any_eq_true.mpr ⟨i, List.mem_range.mpr hi, hbad⟩
  · by_cases hlk : l = k
    · subst hlk
      rw [e1 hi, e2 hj]
      exact ler hi hj
    · have hl' : l < k := by omega
      have hln : l < n := by omega
      have t1 := h.tri l hl'
      rw [at' hi hln, at' hln hj]
      rcases tight_or (matAt M i l) (sumC (matAt M i k) (matAt M k l)) with e | e <;> rcases tight_or (matAt M l j) (sumC (matAt M l k) (matAt M k j)) with g | g <;> rw [e, g]
      · exact leC_trans (lel hi hj) (t1 i j hi hj)
      · rw [← sum_assoc]
        exact leC_trans (ler hi hj) (sum_mono (t1 i k hi hk) (leC_refl _))
      · rw [sum_assoc]
        exact leC_trans (ler hi hj) (sum_mono (leC_refl _) (t1 k j hk hj))
      · have z : leC (sumC (matAt M i k) (matAt M k j)) (sumC (sumC (matAt M i k) (matAt M k l)) (sumC (matAt M l k) (matAt M k j))) := by
          rw [sum_assoc, ← sum_assoc (matAt M k l)]
          refine sum_mono (leC_refl _) ?_
          have y := sum_mono (t1 k k hk hk) (leC_refl (matAt M k j))
          rw [h.diag k hk, sum_one_l] at y
          exact y
        exact leC_trans (ler hi hj) z
theorem Mid.all (hn : ss.length = n) (hE : Edge c ss) : ∀ (d k : Nat) (M : Mat), d = n - k → k ≤ n → Mid c ss n M0 M k → (shutF n ((List.range n).drop k) M = none → LawBad c ss) ∧ ∀ M', shutF n ((List.range n).drop k) M = some M' → Mid c ss n M0 M' n
  | 0, k, M, hd, hk, h => by
    have e : k = n := by omega
    subst e
    rw [List.drop_eq_nil_of_le (Nat.le_of_eq List.length_range)]
    exact ⟨(fun z => nomatch (show (some M : Option Mat) = none from z)), (fun M' z => by
      have z : (some M : Option Mat) = some M' := z
      cases z
      exact h)⟩
  | d + 1, k, M, hd, hk, h => by
    have lt : k < n := by omega
    have hdr : (List.range n).drop k = k :: (List.range n).drop (k + 1) := by
      rw [List.drop_eq_getElem_cons (by rw [List.length_range]; exact lt), List.getElem_range]
    rw [hdr]
    unfold shutF
    by_cases hb : negD n (stepM n k M) = true
    · rw [if_pos hb]
      exact ⟨fun _ => h.bad hn hE lt hb, (fun M' z => nomatch z)⟩
    · rw [if_neg hb]
      exact Mid.all hn hE d (k + 1) _ (by omega) lt (h.next hn lt hb)
theorem Mid.least {M : Mat} (h : Mid c ss n M0 M n) (hn : ss.length = n) (hnd : ss.Nodup) (hE : Edge c ss) (hat : ∀ i j a b, ss[i]? = some a → ss[j]? = some b → matAt M0 i j = if a = b then some 1 else c a b) :
    ∀ (p : List Str) (i j : Nat) (a b : Str), ss[i]? = some a → ss[j]? = some b → (a :: p).getLast? = some b → leC (matAt M i j) (val c (a :: p))
  | [], i, j, a, b, ha, hb, hl => by
    have e : a = b := Option.some.inj hl
    subst e
    have e2 := at_inj hnd ha hb
    subst e2
    have hi : i < n := by have := (List.getElem?_eq_some_iff.mp ha).1; omega
    rw [h.diag i hi]
    exact leC_refl _
  | y :: p, i, j, a, b, ha, hb, hl => by
    rw [List.getLast?_cons_cons] at hl
    have hi : i < n := by have := (List.getElem?_eq_some_iff.mp ha).1; omega
    have hj : j < n := by have := (List.getElem?_eq_some_iff.mp hb).1; omega
    rw [val_cons]
    cases hc : c a y with
    | none => exact leC_none _
    | some v =>
      obtain ⟨_, hy, hne⟩ := hE a y v hc
      obtain ⟨l, hl', el⟩ := List.mem_iff_getElem.mp hy
      have hyl : ss[l]? = some y := by rw [List.getElem?_eq_getElem hl', el]
      have hln : l < n := by omega
      refine leC_trans (h.tri l hln i j hi hj) (sum_mono ?_ (Mid.least h hn hnd hE hat p l j y b hyl hb hl))
      have z := h.dec i l hi hln
      rw [hat i l a y ha hyl, if_neg hne, hc] at z
      exact z
/-- the program's grid, shut, tells what the law's least ways tell -/
theorem shut_law (hn : ss.length = n) (hnd : ss.Nodup) (hE : Edge c ss) (hpos : 0 < n) (hM : Sq M0 n) (hat : ∀ i j a b, ss[i]? = some a → ss[j]? = some b → matAt M0 i j = if a = b then some 1 else c a b) :
    (shutM n M0 = none ∧ LawBad c ss) ∨ ∃ M', shutM n M0 = some M' ∧ ¬ LawBad c ss ∧ ∀ i j a b, ss[i]? = some a → ss[j]? = some b → matAt M' i j = if a = b then some 1 else W c ss a b := by
  obtain ⟨h0, h1⟩ := Mid.all hn hE n 0 M0 (Nat.sub_zero n).symm (Nat.zero_le n) (Mid.start hn hM hat)
  have e : shutF n ((List.range n).drop 0) M0 = shutM n M0 := rfl
  rw [e] at h0 h1
  cases hs : shutM n M0 with
  | none => exact .inl ⟨rfl, h0 hs⟩
  | some M' =>
    have h := h1 M' hs
    have hcalm : ∀ N, Calm c N := fun N x p _ hl => calm_of fun hb => by
      cases p with
      | nil => exact absurd (show badC (some 1) = true from hb) (by decide)
      | cons y r =>
        cases hv : val c (x :: y :: r) with
        | none => rw [hv] at hb; cases hb
        | some v =>
          obtain ⟨i, hi, ei⟩ := List.mem_iff_getElem.mp (val_in hE hv x List.mem_cons_self)
          have hx : ss[i]? = some x := by rw [List.getElem?_eq_getElem hi, ei]
          have z := h.least hn hnd hE hat (y :: r) i i x x hx hx hl
          rw [h.diag i (by omega)] at z
          exact not_bad z hb
    have hno : ¬ LawBad c ss := fun ⟨a, b, ha, hb, hne, hbad⟩ => by
      cases h1 : W c ss a b with
      | none => rw [h1] at hbad; cases hbad
      | some v =>
        cases h2 : W c ss b a with
        | none => rw [h1, h2] at hbad; cases hbad
        | some u =>
          obtain ⟨p, g1, g2, _⟩ := way_is c _ a b _ v h1
          obtain ⟨q, g3, g4, _⟩ := way_is c _ b a _ u h2
          obtain ⟨r, k1, k2⟩ := Way.join ⟨p, g1, g2⟩ ⟨q, g3, g4⟩
          rw [h1, h2, sum_some, ← k2] at hbad
          exact not_bad (hcalm _ a r (Nat.lt_succ_self _) k1) hbad
    refine .inr ⟨M', rfl, hno, fun i j a b ha hb => ?_⟩
    by_cases hab : a = b
    · subst hab
      have e2 := at_inj hnd ha hb
      subst e2
      rw [if_pos rfl]
      exact h.diag i (by have := (List.getElem?_eq_some_iff.mp ha).1; omega)
    · rw [if_neg hab]
      refine leC_anti (fun v hv => ?_) fun v hv => ?_
      · obtain ⟨p, g1, g2, _⟩ := way_is c _ a b _ v hv
        have z := h.least hn hnd hE hat p i j a b ha hb g1
        rw [g2] at z
        exact z v rfl
      · obtain ⟨p, g1, g2⟩ := h.snd i j a b v ha hb hv
        have z := way_small hE (hcalm _) hab g1 (Nat.lt_succ_self _)
        rw [g2] at z
        exact z v rfl
end
end Rw
set_option Elab.async false
set_option linter.all false
set_option maxRecDepth 100000
set_option maxHeartbeats 8000000
namespace Rw
open PySem L2
abbrev sWords : Stmt := top 51
abbrev sMore : Stmt := top 54
abbrev sTight : Stmt := top 55
abbrev sBars : Stmt := top 56
/-! ### bounds of the law: None, or a tuple of a number and a mark -/
def RC : Hp → V → Code' → Prop := fun H v c => (c = none ∧ v = .non) ∨ ∃ k, c = some k ∧ RB H v (boundC k)
theorem RC.same {H H' : Hp} {v : V} {c : Code'} (h : RC H v c) (s : Same H H') : RC H' v c := by
  rcases h with h | ⟨k, e, h⟩
  · exact .inl h
  · exact .inr ⟨k, e, h.mono fun a xs e => s _ _ e⟩
theorem boundC_s (k : Int) : (boundC k).2 = 0 ∨ (boundC k).2 = 1 := by
  unfold boundC
  dsimp only
  split
  · exact .inl rfl
  · exact .inr rfl
theorem code_bound (k : Int) : codeB (boundC k) = k := by
  unfold codeB boundC
  dsimp only
  have h := Int.fdiv_eq_ediv_of_nonneg k (show (0 : Int) ≤ 2 by decide)
  rw [h]
  by_cases z : k % 2 = 1
  · rw [if_pos z, if_neg (by decide)]
    omega
  · rw [if_neg z, if_pos rfl]
    omega
theorem bound_code {b : Bd} (h : b.2 = 0 ∨ b.2 = 1) : boundC (codeB b) = b := by
  obtain ⟨n, s⟩ := b
  unfold codeB boundC
  dsimp only at h ⊢
  have e : ∀ x : Int, x.fdiv 2 = x / 2 := fun x => Int.fdiv_eq_ediv_of_nonneg x (by decide)
  rw [e]
  rcases h with rfl | rfl
  · rw [if_neg (by decide), if_pos (by omega)]
    congr 1
    omega
  · rw [if_pos rfl, if_neg (by omega)]
    congr 1
    omega
theorem bound_add (a b : Int) : boundC (addC a b) = ((boundC a).1 + (boundC b).1, if (boundC a).2 < (boundC b).2 then (boundC b).2 else (boundC a).2) := by
  unfold boundC addC
  dsimp only
  have e : ∀ x : Int, x.fdiv 2 = x / 2 := fun x => Int.fdiv_eq_ediv_of_nonneg x (by decide)
  rw [e, e, e]
  by_cases ha : a % 2 = 1 <;> by_cases hb : b % 2 = 1 <;> simp only [ha, hb, if_true, if_false, or_true, true_or, or_false, or_self] <;> ext1 <;> (try dsimp only) <;> (try split) <;> (try split) <;> (try omega)
section
variable {P : Program} {w : World} {K : PySem.W.Frag} {mg : Str → Option Value} {base : Heap}
def spMore (K : PySem.W.Frag) : Sp := fun vs H Q _ => ∃ (v u : V) (x y : Code'), vs = [v, u] ∧ RC H v x ∧ RC H u y ∧ ∀ w H', Same H H' → RC H' w (sumC x y) → Q w H'
theorem scMore : FnScope ["_law_one_here", "_law_other_here"] ["_law_one_here", "_law_other_here"] (defScope sMore) := ⟨rfl, rfl, rfl, by decide +kernel, rfl, by decide +kernel, by decide +kernel⟩
theorem ok_more {f : Addr} {fd : FuncData} (F : Fun K "_law_more" "_law_more" sMore f fd) (mm : mg "max" = none) : FnOk P w K mg base CX0 1 f fd ["_law_one_here", "_law_other_here"] (spMore K) := by
  refine F.ok scMore (fun vs H Q E h => ?_) (fun cdv A outer s H vs Q E hr h => ?_)
  · obtain ⟨v, u, x, y, rfl, _⟩ := h
    rfl
  obtain ⟨v, u, x, y, rfl, hx, hy, q⟩ := h
  refine ⟨_, pss_cons (ps_if (PW.pt (pw_or (pt_cmpR op_isN (pv 0) pe_non (nomark _)) (pw_or1 (pt_cmpR op_isN (pv 1) pe_non (nomark _))))) (pss_one (ps_ret pe_non)) pss_nil)
    (pss_one (ps_ret (pe_tup (pa_cons (pe_op op_add (pe_ix ix_tup (pv 0) pe_int (fun _ _ => rfl)) (pe_ix ix_tup (pv 1) pe_int (fun _ _ => rfl)))
      (pa_cons (pe_callB (call_max2 rfl) rfl mm (by decide +kernel) (pa_cons (pe_ix ix_tup (pv 0) pe_int (fun _ _ => rfl)) (pa_cons (pe_ix ix_tup (pv 1) pe_int (fun _ _ => rfl)) pa_nil))) pa_nil))))), ?_⟩
  rcases hx with ⟨rfl, rfl⟩ | ⟨k, rfl, a, rfl, ha⟩
  · exact ⟨_, rfl, rfl, true, rfl, (if_pos rfl).mpr ((if_pos rfl).mpr (q .non H (Same.refl H) (.inl ⟨rfl, rfl⟩)))⟩
  refine ⟨_, rfl, rfl, false, rfl, (if_neg Bool.false_ne_true).mpr ?_⟩
  rcases hy with ⟨rfl, rfl⟩ | ⟨j, rfl, b, rfl, hb⟩
  · exact ⟨_, rfl, rfl, true, rfl, (if_pos rfl).mpr (q .non H (Same.refl H) (.inl ⟨rfl, rfl⟩))⟩
  refine ⟨_, rfl, rfl, false, rfl, (if_neg Bool.false_ne_true).mpr ?_⟩
  have a0 : atI [V.int (boundC k).1, .int (boundC k).2] 0 = some (.int (boundC k).1) := rfl
  have a1 : atI [V.int (boundC k).1, .int (boundC k).2] 1 = some (.int (boundC k).2) := rfl
  have b0 : atI [V.int (boundC j).1, .int (boundC j).2] 0 = some (.int (boundC j).1) := rfl
  have b1 : atI [V.int (boundC j).1, .int (boundC j).2] 1 = some (.int (boundC j).2) := rfl
  refine ⟨_, rfl, a, _, _, _, rfl, rfl, SqT.of ha, a0, _, rfl, b, _, _, _, rfl, rfl, SqT.of hb, b0, _, _, rfl, rfl, ?_⟩
  refine ⟨_, rfl, a, _, _, _, rfl, rfl, SqT.of ha, a1, _, rfl, b, _, _, _, rfl, rfl, SqT.of hb, b1, _, _, rfl, (by show 2 ≤ sizeLine; decide), fun p hp => ?_⟩
  refine q (.ref p) _ (same_new hp _) (.inr ⟨addC k j, sum_some k j, p, rfl, ?_⟩)
  rw [upd_same, bound_add]
def spTight (K : PySem.W.Frag) : Sp := fun vs H Q _ => ∃ (v u : V) (x y : Code'), vs = [v, u] ∧ RC H v x ∧ RC H u y ∧ ∀ w H', Same H H' → RC H' w (tightC x y) → Q w H'
theorem scTight : FnScope ["_law_one_here", "_law_other_here"] ["_law_one_here", "_law_other_here"] (defScope sTight) := ⟨rfl, rfl, rfl, by decide +kernel, rfl, by decide +kernel, by decide +kernel⟩
theorem lex_code (k j : Int) : HT.lexLt [(boundC k).1, 0 - (boundC k).2] [(boundC j).1, 0 - (boundC j).2] = decide (k < j) := by
  rw [HT.lexLt_cons, HT.lexLt_cons, HT.lexLt_nil_nil]
  unfold boundC
  dsimp only
  have e : ∀ x : Int, x.fdiv 2 = x / 2 := fun x => Int.fdiv_eq_ediv_of_nonneg x (by decide)
  rw [e, e, Bool.eq_iff_iff, decide_eq_true_eq]
  by_cases h1 : k / 2 = j / 2
  · rw [if_pos h1]
    by_cases ha : k % 2 = 1 <;> by_cases hb : j % 2 = 1 <;> simp only [ha, hb, if_true, if_false] <;> (try simp) <;> omega
  · rw [if_neg h1, decide_eq_true_eq]
    omega
theorem ok_tight {f : Addr} {fd : FuncData} (F : Fun K "_law_tight" "_law_tight" sTight f fd) : FnOk P w K mg base CX0 1 f fd ["_law_one_here", "_law_other_here"] (spTight K) := by
  refine F.ok scTight (fun vs H Q E h => ?_) (fun cdv A outer s H vs Q E hr h => ?_)
  · obtain ⟨v, u, x, y, rfl, _⟩ := h
    rfl
  obtain ⟨v, u, x, y, rfl, hx, hy, q⟩ := h
  refine ⟨_, pss_cons (ps_if (PW.pt (pw_or (pt_cmpR op_isN (pv 0) pe_non (nomark _)) (pw_or1 (pt_cmpR op_isN (pv 1) pe_non (nomark _))))) (pss_one (ps_ret (pe_ifExp (pt_cmpR op_isN (pv 0) pe_non (nomark _)) (pv 1) (pv 0)))) pss_nil)
    (pss_one (ps_ret (pe_ifExp (pt_cmpR (op_ltT hr.units0) (pe_tup (pa_cons (pe_ix ix_tup (pv 0) pe_int (fun _ _ => rfl)) (pa_cons (pe_op op_sub pe_int (pe_ix ix_tup (pv 0) pe_int (fun _ _ => rfl))) pa_nil)))
      (pe_tup (pa_cons (pe_ix ix_tup (pv 1) pe_int (fun _ _ => rfl)) (pa_cons (pe_op op_sub pe_int (pe_ix ix_tup (pv 1) pe_int (fun _ _ => rfl))) pa_nil))) (nomark _)) (pv 0) (pv 1)))), ?_⟩
  rcases hx with ⟨rfl, rfl⟩ | ⟨k, rfl, a, rfl, ha⟩
  · exact ⟨_, rfl, rfl, true, rfl, (if_pos rfl).mpr ((if_pos rfl).mpr ⟨_, rfl, rfl, true, rfl, (if_pos rfl).mpr ⟨_, rfl, q u H (Same.refl H) hy⟩⟩)⟩
  refine ⟨_, rfl, rfl, false, rfl, (if_neg Bool.false_ne_true).mpr ?_⟩
  rcases hy with ⟨rfl, rfl⟩ | ⟨j, rfl, b, rfl, hb⟩
  · exact ⟨_, rfl, rfl, true, rfl, (if_pos rfl).mpr ⟨_, rfl, rfl, false, rfl, (if_neg Bool.false_ne_true).mpr ⟨_, rfl, q (.ref a) H (Same.refl H) (.inr ⟨k, rfl, a, rfl, ha⟩)⟩⟩⟩
  refine ⟨_, rfl, rfl, false, rfl, (if_neg Bool.false_ne_true).mpr ?_⟩
  have a0 : atI [V.int (boundC k).1, .int (boundC k).2] 0 = some (.int (boundC k).1) := rfl
  have a1 : atI [V.int (boundC k).1, .int (boundC k).2] 1 = some (.int (boundC k).2) := rfl
  have b0 : atI [V.int (boundC j).1, .int (boundC j).2] 0 = some (.int (boundC j).1) := rfl
  have b1 : atI [V.int (boundC j).1, .int (boundC j).2] 1 = some (.int (boundC j).2) := rfl
  refine ⟨_, rfl, a, _, _, _, rfl, rfl, SqT.of ha, a0, _, rfl, a, _, _, _, rfl, rfl, SqT.of ha, a1, _, _, rfl, rfl, (by show 2 ≤ sizeLine; decide), fun p hp => ?_⟩
  have s1 : Same H (upd H p (.tup [.int (boundC k).1, .int (0 - (boundC k).2)])) := same_new hp _
  refine ⟨_, rfl, b, _, _, _, rfl, rfl, SqT.of (s1 _ _ hb), b0, _, rfl, b, _, _, _, rfl, rfl, SqT.of (s1 _ _ hb), b1, _, _, rfl, rfl, (by show 2 ≤ sizeLine; decide), fun p2 hp2 => ?_⟩
  have s2 := same_new hp2 (.tup [.int (boundC j).1, .int (0 - (boundC j).2)])
  refine ⟨p, p2, [(boundC k).1, 0 - (boundC k).2], [(boundC j).1, 0 - (boundC j).2], rfl, rfl, SqT.of (s2 _ _ upd_same), SqT.of upd_same, _, rfl, ?_⟩
  rw [lex_code]
  have s12 := s1.trans s2
  have q : ∀ w H', Same H H' → RC H' w (if k < j then some k else some j) → Q w H' := q
  refine ite2 (fun c => ?_) (fun c => ?_)
  · refine ⟨_, rfl, q (.ref a) _ s12 ?_⟩
    rw [if_pos (of_decide_eq_true c)]
    exact .inr ⟨k, rfl, a, rfl, s12 _ _ ha⟩
  · refine ⟨_, rfl, q (.ref b) _ s12 ?_⟩
    rw [if_neg fun z => c (decide_eq_true z)]
    exact .inr ⟨j, rfl, b, rfl, s12 _ _ hb⟩
def spBars (K : PySem.W.Frag) : Sp := fun vs H Q _ => ∃ (v : V) (x : Code'), vs = [v] ∧ RC H v x ∧ Q (.bl (badC x)) H
theorem scBars : FnScope ["_law_bound"] ["_law_bound"] (defScope sBars) := ⟨rfl, rfl, rfl, by decide +kernel, rfl, by decide +kernel, by decide +kernel⟩
theorem ok_bars {f : Addr} {fd : FuncData} (F : Fun K "_law_bars" "_law_bars" sBars f fd) : FnOk P w K mg base CX0 1 f fd ["_law_bound"] (spBars K) := by
  refine F.ok scBars (fun vs H Q E h => ?_) (fun cdv A outer s H vs Q E hr h => ?_)
  · obtain ⟨v, x, rfl, _⟩ := h
    rfl
  obtain ⟨v, x, rfl, hx, q⟩ := h
  refine ⟨_, pss_one (ps_ret (pe_and (pe_cmpR op_notN (pv 0) pe_non (nomark _)) (pe_one (pe_or (pe_cmpR op_lt (pe_ix ix_tup (pv 0) pe_int (fun _ _ => rfl)) pe_int (nomark _))
    (pe_one (pe_and (pe_cmpR op_eq (pe_ix ix_tup (pv 0) pe_int (fun _ _ => rfl)) pe_int (nomark _)) (pe_one (pe_cmpR op_eq (pe_ix ix_tup (pv 0) pe_int (fun _ _ => rfl)) pe_int (nomark _))))))))), ?_⟩
  rcases hx with ⟨rfl, rfl⟩ | ⟨k, rfl, a, rfl, ha⟩
  · exact ⟨_, rfl, rfl, false, rfl, (if_neg Bool.false_ne_true).mpr q⟩
  have a0 : atI [V.int (boundC k).1, .int (boundC k).2] 0 = some (.int (boundC k).1) := rfl
  have a1 : atI [V.int (boundC k).1, .int (boundC k).2] 1 = some (.int (boundC k).2) := rfl
  have ed : (boundC k).1 = k / 2 := Int.fdiv_eq_ediv_of_nonneg k (by decide)
  have q : Q (.bl (decide (k < 1))) H := q
  refine ⟨_, rfl, rfl, true, rfl, (if_pos rfl).mpr ?_⟩
  refine ⟨_, rfl, a, _, _, _, rfl, rfl, SqT.of ha, a0, _, _, rfl, rfl, _, rfl, ?_⟩
  refine ite2 (fun c => ?_) (fun c => ?_)
  · have c := of_decide_eq_true c
    rw [decide_eq_true (show k < 1 by omega)] at q
    exact q
  · have c : ¬ (boundC k).1 < 0 := fun z => c (decide_eq_true z)
    refine ⟨_, rfl, a, _, _, _, rfl, rfl, SqT.of ha, a0, rfl, _, rfl, ?_⟩
    refine ite2 (fun e => ?_) (fun e => ?_)
    · have e : (boundC k).1 = 0 := by
        have z := of_decide_eq_true e
        injection z
      refine ⟨_, rfl, a, _, _, _, rfl, rfl, SqT.of ha, a1, rfl, ?_⟩
      have z : decide (V.int (boundC k).2 = V.int 1) = decide (k < 1) := by
        rw [dec_int, Bool.eq_iff_iff, decide_eq_true_eq, beq_iff_eq]
        have e2 : (boundC k).2 = if k % 2 = 1 then 0 else 1 := rfl
        rw [e2]
        split <;> omega
      rw [z]
      exact q
    · have e : ¬ (boundC k).1 = 0 := fun z => e (decide_eq_true (by rw [z]))
      rw [decide_eq_false (show ¬ k < 1 by omega)] at q
      exact q
end
end Rw
set_option Elab.async false
set_option linter.all false
set_option maxRecDepth 100000
set_option maxHeartbeats 8000000
namespace Rw
open PySem L2
abbrev sRest : Stmt := top 9999
/-- the pairs that dict(..) is made of -/
theorem pairs_kvs {β : Type} {R : V → β → Prop} {H : Hp} : ∀ {es : List (Pr × β)} {ps : List Addr}, Paired (fun e p => ∃ qa v, H p = some (.tup [.ref qa, v]) ∧ IsPr H qa e.1 ∧ R v e.2) es ps →
    ∃ kvs : List (List Key × V), Paired (fun p kv => ∃ b, H p = some (.tup [.ref b, kv.2]) ∧ H b = some (.tup (kv.1.map kV))) ps kvs ∧ Paired (fun e kv => kv.1 = key2 e.1 ∧ R kv.2 e.2) es kvs ∧ kvs.map (·.1) = es.map fun e => key2 e.1
  | _, _, .nil => ⟨[], .nil, .nil, rfl⟩
  | e :: es, p :: ps, .cons ⟨qa, v, h1, h2, h3⟩ t => by
    obtain ⟨kvs, g1, g2, g3⟩ := pairs_kvs t
    exact ⟨(key2 e.1, v) :: kvs, .cons ⟨qa, h1, h2⟩ g1, .cons ⟨rfl, h3⟩ g2, by rw [List.map_cons, List.map_cons, g3]⟩
theorem keys_nd {β : Type} {es : List (Pr × β)} (h : (es.map (·.1)).Nodup) : (es.map fun e => key2 e.1).Nodup := by
  have e : (es.map fun e => key2 e.1) = (es.map (·.1)).map key2 := by rw [List.map_map]; rfl
  rw [e]
  exact (List.pairwise_map.mpr (List.Pairwise.imp (fun h z => h (key2_inj z)) h))
theorem sqT_put {K : PySem.W.Frag} {H : Hp} {d a : Addr} {u o : HO} {xs : List V} (e : H d = some u) (n1 : ∀ ys, u ≠ .tup ys) (n2 : ∀ z ys, u ≠ .frz z (.tup ys)) (h : SqT K H a xs) : SqT K (upd H d o) a xs := by
  rcases h with (h | ⟨z, h⟩) | h
  · exact .inl (.inl (by rw [upd_ne (ne_of h e fun z => n1 _ z.symm)]; exact h))
  · exact .inl (.inr ⟨z, by rw [upd_ne (ne_of h e fun z => n2 _ _ z.symm)]; exact h⟩)
  · exact .inr h
theorem RW.putL {K : PySem.W.Frag} {H : Hp} {d : Addr} {u o : HO} {v : V} {b : Bd} (e : H d = some u) (n1 : ∀ ys, u ≠ .tup ys) (n2 : ∀ z ys, u ≠ .frz z (.tup ys)) (h : Rw.RW K H v b) : Rw.RW K (upd H d o) v b := by
  obtain ⟨a, e1, h⟩ := h
  exact ⟨a, e1, sqT_put e n1 n2 h⟩
section
variable {P : Program} {w : World} {K : PySem.W.Frag} {mg : Str → Option Value} {base : Heap}
def spWords (K : PySem.W.Frag) : Sp := fun vs H Q _ => ∃ (d : Addr) (m : List (Pr × Bd)), vs = [.ref d] ∧ DT RB H d m ∧ (m.map (·.1)).Nodup ∧ m.length ≤ 1000 ∧ ∀ (r : Addr) (H' : Hp), H r = none → Same H H' → DT (RW K) H' r m → Q (.ref r) H'
theorem scWords : FnScope ["_law_bounds", "_law_pair"] ["_law_bounds"] (defScope sWords) := ⟨rfl, rfl, rfl, by decide +kernel, rfl, by decide +kernel, by decide +kernel⟩
theorem ok_words {f fw : Addr} {fd fdw : FuncData} (F : Fun K "_law_words" "_law_words" sWords f fd) (GW : FnOk P w K mg base CX0 1 fw fdw ["_law_bound"] (spWord K)) (bW : Binds K fdw ["_law_bound"] []) (kW : PySem.W.keepIn K (.ref fw) = true) (mW : mg "_law_word" = some (.ref fw))
    (md : mg "dict" = none) : FnOk P w K mg base CX0 2 f fd ["_law_bounds"] (spWords K) := by
  refine F.ok scWords (fun vs H Q E h => ?_) (fun cdv A outer s H vs Q E hr h => ?_)
  · obtain ⟨d, m, rfl, _⟩ := h
    rfl
  obtain ⟨d, m, rfl, ⟨kvs, hd, hpr⟩, hnd, hml, q⟩ := h
  have hu := hu_of hr
  refine ⟨_, pss_one (ps_ret (pe_lock (pe_callTy (call_dictT rfl (Nat.lt_of_le_of_lt (Nat.add_le_add_left (by decide : 2 ≤ 64) _) hr.units)) rfl md PyProof.Rows.boot_dict (pa_cons
      (pe_lc (own := [("_law_pair", 1)]) (g := gName 1) (tt := tYes) rfl scWords.nd (pi_keys (pv 0)) (blkOk_by (N := ["_law_bounds", "_law_pair"]) (sc := defScope sWords) (by decide +kernel)) (fun _ _ _ _ _ => pg_name (i := 1) scWords.nd rfl (Or.inl rfl)) (fun _ _ _ _ _ => pts_nil)
        (fun _ _ _ _ _ => pe_tup (pa_cons (pv 1) (pa_cons (pe_call GW hr rfl mW kW bW .nil pass0 (pa_cons (pe_dget hu (pv 0) (pv 1) (fun _ _ => rfl)) pa_nil)) pa_nil)))) pa_nil)))), ?_⟩
  have hlk : m.length = kvs.length := Paired.length hpr
  refine ⟨d, .dT kvs, hd, True.intro, fun od => ?_⟩
  have lk0 : Lk H (upd H d (.frz od (.dT kvs))) d od (.dT kvs) := Lk.first
  refine ⟨_, rfl, d, od, rfl, .inr ⟨kvs, lk0.at', fun D hD => ?_⟩⟩
  generalize upd H d (.frz od (.dT kvs)) = H1 at lk0 hD
  refine lc_map (S := Same) walk_keysT (stp_same D) hD (by omega) (ofL m fun _ => true) (fun j H y => ∃ r, y = .ref r ∧ ∃ e, m[j]? = some e ∧ ∃ qa v, H r = some (.tup [.ref qa, v]) ∧ IsPr H qa e.1 ∧ RW K H v e.2) ?_ ?_ ?_ ?_ ?_
  · rintro j H2 H3 y s2 ⟨r, rfl, e, he, qa, v, h1, h2, h3⟩
    exact ⟨r, rfl, e, he, qa, v, s2 _ _ h1, h2.same s2, h3.same s2⟩
  · rintro j H2 y acc o hacc ⟨r, rfl, e, he, qa, v, h1, h2, h3⟩
    refine ⟨r, rfl, e, he, qa, v, ?_, ?_, RW.putL hacc (fun _ z => nomatch z) (fun _ _ z => nomatch z) h3⟩
    · rw [upd_ne (ne_of h1 hacc fun z => nomatch z)]
      exact h1
    · unfold IsPr at h2 ⊢
      rw [upd_ne (ne_of h2 hacc fun z => nomatch z)]
      exact h2
  · intro H2 s2
    exact s2 _ _ lk0.at'
  · rintro j x H2 H3 acc N Z hj s2 hacc ⟨rfl, k, v, qa, hkv, rfl, hqa⟩ hyes hno
    obtain ⟨e, he, hek, hev⟩ := paired_at hpr hkv
    have hek : k = key2 e.1 := hek
    subst hek
    have hqa : IsPr H3 qa e.1 := hqa
    have hem : e ∈ m := List.mem_of_getElem? he
    rcases pl_look (R := fun v b => RB H v b) e.1 hpr with ⟨g1, _⟩ | ⟨b, v', g1, g2, g3⟩
    · exact absurd g1 (look_mem hem)
    rw [look_of hnd hem] at g1
    cases g1
    have lk := lk0.same s2
    have gd : DGet H3 d (.ref qa) (some v') := .inr ⟨kvs, key2 e.1, qa, .inr ⟨od, lk.at'⟩, rfl, hqa, g2.symm⟩
    obtain ⟨t, rfl, ht⟩ := g3
    have ht3 : H3 t = some (.tup [.int e.2.1, .int e.2.2]) := lk.keep _ _ ht (ne_of ht hd fun z => nomatch z)
    refine ⟨rfl, iteT (B := Z H3) ⟨_, rfl, _, rfl, _, rfl, d, _, rfl, gd, t, e.2.1, e.2.2, rfl, SqT.of ht3, fun r hr' => ⟨by show 2 ≤ sizeLine; decide, fun r2 hr2 => ?_⟩⟩⟩
    have s3 := same_new hr' (.tup [wordV e.2.2, .int e.2.1])
    have s4 := same_new hr2 (.tup [.ref qa, .ref r])
    exact hyes (by rw [ofL_at he]) _ _ (s3.trans s4) ⟨r2, rfl, e, he, qa, _, upd_same, (hqa.same s3).same s4, r, rfl, SqT.of (s4 _ _ upd_same)⟩
  · intro ys H3 s3 e3 r3
    rw [← hlk] at r3
    have r4 : Paired (fun e y => ∃ r, y = .ref r ∧ ∃ qa v, H3 r = some (.tup [.ref qa, v]) ∧ IsPr H3 qa e.1 ∧ RW K H3 v e.2) (m.filter fun _ => true) ys := chosen_whole (fun j c y hc ⟨r, hr, e, he, z⟩ => ⟨r, hr, by rw [hc] at he; cases he; exact z⟩) r3
    rw [List.filter_eq_self.mpr fun _ _ => rfl] at r4
    obtain ⟨ps, rfl, r5⟩ := paired_refs r4
    obtain ⟨kv2, g1, g2, g3⟩ := pairs_kvs (R := fun v b => RW K H3 v b) r5
    refine ⟨D, ps, kv2, rfl, SqL.of e3, g1, by rw [g3]; exact keys_nd hnd, fun p hp => ?_⟩
    have lk := (lk0.same s3).new hp (o := .dT kv2)
    have hpd : p ≠ d := (ne_of_none (lk0.same s3).at' hp).symm
    refine ⟨lk.at', q p _ ?_ (lk.back hd) ⟨kv2, by rw [upd_ne hpd]; exact upd_same, Rw.Paired.imp g2 fun e kv _ h => ⟨h.1, ?_⟩⟩⟩
    · cases e : H p with
      | none => rfl
      | some o => 
        have z := (lk0.same s3).keep p o e hpd
        rw [hp] at z
        cases z
    · obtain ⟨a, e1, h⟩ := h.2
      refine ⟨a, e1, ?_⟩
      exact sqT_put lk.at' (fun _ z => nomatch z) (fun _ _ z => nomatch z) (sqT_same (same_new hp (.dT kv2)) h)
end
end Rw
set_option Elab.async false
set_option linter.all false
set_option maxRecDepth 100000
set_option maxHeartbeats 8000000
namespace Rw
open PySem L2
abbrev sWay : Stmt := top 57
/-- marks of bounds are 0 or 1 -/
def Mk (m : List (Pr × Bd)) : Prop := ∀ e ∈ m, e.2.2 = 0 ∨ e.2.2 = 1
theorem RC.of {H : Hp} {v : V} {b : Bd} (h : RB H v b) (hs : b.2 = 0 ∨ b.2 = 1) : RC H v (some (codeB b)) := .inr ⟨_, rfl, by rw [bound_code hs]; exact h⟩
theorem look_in {β : Type} {m : List (Pr × β)} {q : Pr} {b : β} (h : look m q = some b) : (q, b) ∈ m := by
  unfold look at h
  cases e : m.find? fun e => decide (e.1 = q) with
  | none => rw [e] at h; cases h
  | some x =>
    rw [e] at h
    have h : x.2 = b := Option.some.inj h
    have h1 := List.mem_of_find?_eq_some e
    have h2 : x.1 = q := by
      have z := List.find?_some e
      exact of_decide_eq_true z
    have : x = (q, b) := by rw [← h, ← h2]
    rw [← this]
    exact h1
theorem DT.code {H : Hp} {d a : Addr} {m : List (Pr × Bd)} {x y : Str} (h : DT RB H d m) (hm : Mk m) (ha : IsPr H a (x, y)) : (codeM m x y = none ∧ DGet H d (.ref a) none) ∨ ∃ k v, codeM m x y = some k ∧ DGet H d (.ref a) (some v) ∧ RC H v (some k) := by
  obtain ⟨o, g, h⟩ := h.get ha
  rcases h with ⟨h1, rfl⟩ | ⟨b, v, h1, rfl, h3⟩
  · exact .inl ⟨by unfold codeM; rw [h1]; rfl, g⟩
  · exact .inr ⟨_, v, by unfold codeM; rw [h1]; rfl, g, RC.of h3 (hm _ (look_in h1))⟩
theorem tight_none (x : Code') : tightC x none = x := by cases x <;> rfl
theorem filter_len {L : List Str} (hn : L.Nodup) {x : Str} (hx : x ∈ L) : (L.filter fun y => decide (y ≠ x)).length + 1 = L.length := by
  induction L with
  | nil => cases hx
  | cons y L ih =>
    have hn' := List.nodup_cons.mp hn
    rw [List.filter_cons]
    by_cases e : y = x
    · subst e
      have e2 : (L.filter fun z => decide (z ≠ y)) = L := List.filter_eq_self.mpr fun z hz => decide_eq_true fun w => hn'.1 (w ▸ hz)
      rw [if_neg (by simp), e2, List.length_cons]
    · rw [if_pos (decide_eq_true e), List.length_cons, List.length_cons, ih hn'.2 ((List.mem_cons.mp hx).resolve_left fun w => e w.symm)]
theorem paired_eq {α β : Type} {f : α → β} : ∀ {xs : List α} {ys : List β}, Paired (fun x y => y = f x) xs ys → ys = xs.map f
  | _, _, .nil => rfl
  | _, _, .cons h t => by rw [List.map_cons, h, paired_eq t]
section
variable {P : Program} {w : World} {K : PySem.W.Frag} {mg : Str → Option Value} {base : Heap}
def spWay (K : PySem.W.Frag) (n : Nat) : Sp := fun vs H Q _ => ∃ (d l : Addr) (m : List (Pr × Bd)) (h g : Str) (L : List Str), vs = [.ref d, .str h, .str g, .ref l] ∧ DT RB H d m ∧ Mk m ∧ SqL K H l (L.map V.str) ∧ L.Nodup ∧ L.length < n ∧ L.length ≤ 100 ∧
  ∀ w H', Same H H' → RC H' w (wayC (codeM m) (L.length + 1) h g L) → Q w H'
def nWay : List Str := ["_law_bounds", "_law_here", "_law_goal", "_law_left", "_law_found", "_law_one_here", "_law_behind", "_law_other_here"]
theorem scWay : FnScope nWay ["_law_bounds", "_law_here", "_law_goal", "_law_left"] (defScope sWay) := ⟨rfl, rfl, rfl, by decide +kernel, rfl, by decide +kernel, by decide +kernel⟩
theorem ok_way {f fm ft : Addr} {fd fdm fdt : FuncData} (F : Fun K "_law_way" "_law_way" sWay f fd) (bS : Binds K fd ["_law_bounds", "_law_here", "_law_goal", "_law_left"] []) (kS : PySem.W.keepIn K (.ref f) = true) (mS : mg "_law_way" = some (.ref f))
    (GM : FnOk P w K mg base CX0 1 fm fdm ["_law_one_here", "_law_other_here"] (spMore K)) (bM : Binds K fdm ["_law_one_here", "_law_other_here"] []) (kM : PySem.W.keepIn K (.ref fm) = true) (mM : mg "_law_more" = some (.ref fm))
    (GT : FnOk P w K mg base CX0 1 ft fdt ["_law_one_here", "_law_other_here"] (spTight K)) (bT : Binds K fdt ["_law_one_here", "_law_other_here"] []) (kT : PySem.W.keepIn K (.ref ft) = true) (mT : mg "_law_tight" = some (.ref ft)) :
    ∀ n, FnOk P w K mg base CX0 (n + 1) f fd ["_law_bounds", "_law_here", "_law_goal", "_law_left"] (spWay K n)
  | 0 => by
    refine F.ok scWay (fun vs H Q E h => ?_) (fun cdv A outer s H vs Q E hr h => ?_)
    · obtain ⟨d, l, m, x, g, L, rfl, _⟩ := h
      rfl
    · obtain ⟨d, l, m, x, g, L, rfl, _, _, _, _, h, _⟩ := h
      exact absurd h (Nat.not_lt_zero _)
  | n + 1 => by
    have GS := ok_way F bS kS mS GM bM kM mM GT bT kT mT n
    refine F.ok scWay (fun vs H Q E h => ?_) (fun cdv A outer s H vs Q E hr h => ?_)
    · obtain ⟨d, l, m, x, g, L, rfl, _⟩ := h
      rfl
    obtain ⟨d, l, m, x, g, L, rfl, hD, hm, hS, hnd, hn, hL, q⟩ := h
    have hu := hu_of hr
    have hr1 : Room 1 _ := hr.mono (Nat.succ_le_succ (Nat.zero_le n))
    refine ⟨_, pss_cons (ps_set (i := 4) scWay.nd rfl (Or.inl rfl) (pe_dget1 hu (pv 0) (pe_tup (pa_cons (pv 1) (pa_cons (pv 2) pa_nil))) ⟨rfl, rfl, rfl, rfl⟩))
      (pss_cons (ps_for PassesOwn.never rfl (pi_list (pv 3)) (pg_name (i := 5) scWay.nd rfl (Or.inr rfl))
        (pss_one (ps_if (pt_cmp (pc_din hu (pe_tup (pa_cons (pv 1) (pa_cons (pv 5) pa_nil))) (pv 0)))
          (pss_cons (ps_set (i := 6) scWay.nd rfl (Or.inl rfl) (pe_call GS hr rfl mS kS bS .nil pass0 (pa_cons (pv 0) (pa_cons (pv 5) (pa_cons (pv 2) (pa_cons
            (pe_lc (own := [("_law_other_here", 7)]) (g := gName 7) rfl scWay.nd (pi_list (pv 3)) (blkOk_by (N := nWay) (sc := defScope sWay) (by decide +kernel)) (fun _ _ _ _ _ => pg_name (i := 7) scWay.nd rfl (Or.inl rfl)) (fun _ _ _ _ _ => pts_one (pt_cmpR op_ne (pv 7) (pv 5) (nomark _))) (fun _ _ _ _ _ => pv 7)) pa_nil))))))
          (pss_one (ps_set (i := 4) scWay.nd rfl (Or.inl rfl) (pe_call GT hr1 rfl mT kT bT .nil pass0 (pa_cons (pv 4) (pa_cons (pe_call GM hr1 rfl mM kM bM .nil pass0 (pa_cons (pe_dget hu (pv 0) (pe_tup (pa_cons (pv 1) (pa_cons (pv 5) pa_nil))) (fun _ _ => rfl)) (pa_cons (pv 6) pa_nil))) pa_nil))))))
          pss_nil)))
      (pss_one (ps_ret (pv 4)))), ?_⟩
    have e0 : (L.map V.str).length = L.length := List.length_map _
    obtain ⟨kvs, hkd, hpr⟩ := id hD
    refine ⟨_, rfl, d, rfl, .inr ⟨kvs, .inl hkd⟩, _, rfl, _, rfl, (by show 2 ≤ sizeLine; decide), fun p hp => ?_⟩
    have s1 := same_new hp (.tup [.str x, .str g])
    have hD1 : DT RB (upd H p (.tup [.str x, .str g])) d m := hD.mono (fun o e => s1 _ _ e) fun v b h => h.mono fun a xs e => s1 _ _ e
    obtain ⟨o, ho, hro⟩ : ∃ o, DGet (upd H p (.tup [.str x, .str g])) d (.ref p) o ∧ RC (upd H p (.tup [.str x, .str g])) (o.getD .non) (codeM m x g) := by
      rcases hD1.code hm (show IsPr _ p (x, g) from upd_same) with ⟨e, z⟩ | ⟨k, v, e, z, r⟩
      · exact ⟨none, z, .inl ⟨e, rfl⟩⟩
      · exact ⟨some v, z, by rw [e]; exact r⟩
    refine ⟨o, ho, ?_⟩
    generalize upd H p (.tup [.str x, .str g]) = H1 at s1 hD1 hro ho
    refine ⟨_, rfl, l, rfl, ⟨_, s1.seq hS⟩, for_list (xs := L.map V.str) (fun i σ' H' => ∃ (v : V) (u5 u6 u7 : Option V), σ' = [some (.ref d), some (.str x), some (.str g), some (.ref l), some v, u5, u6, u7] ∧ Same H1 H' ∧
      RC H' v ((L.take i).foldl (fun acc y => tightC acc (sumC (codeM m x y) (wayC (codeM m) L.length y g (L.filter fun z => decide (z ≠ y))))) (codeM m x g))) ?_ ?_ ?_ ?_⟩
    · exact ⟨_, none, none, none, rfl, Same.refl _, hro⟩
    · rintro i σ' H' _ ⟨v, u5, u6, u7, rfl, s2, _⟩
      exact s2.seq (s1.seq hS)
    · rintro i y σ' H' hx ⟨v, u5, u6, u7, rfl, s2, hv⟩
      obtain ⟨c, hc, rfl⟩ := at_map hx
      have hcm : c ∈ L := List.mem_of_getElem? hc
      have hfl := filter_len hnd hcm
      refine ⟨_, rfl, _, rfl, (by show 2 ≤ sizeLine; decide), fun p2 hp2 => ⟨_, rfl, ?_⟩⟩
      have s3 := same_new hp2 (.tup [.str x, .str c])
      have s13 := s2.trans s3
      have hD3 : DT RB (upd H' p2 (.tup [.str x, .str c])) d m := hD1.mono (fun o e => s13 _ _ e) fun v b h => h.mono fun a xs e => s13 _ _ e
      have hp3 : IsPr (upd H' p2 (.tup [.str x, .str c])) p2 (x, c) := upd_same
      have hv3 := hv.same s3
      generalize upd H' p2 (.tup [.str x, .str c]) = H3 at s3 s13 hD3 hp3 hv3
      rw [take_snoc hc, List.foldl_append, List.foldl_cons, List.foldl_nil]
      rcases hD3.code hm hp3 with ⟨e, z⟩ | ⟨k, b, e, z, r⟩
      · refine ⟨d, none, rfl, z, false, rfl, (if_neg (by decide)).mpr ?_⟩
        refine ⟨v, _, _, _, rfl, s13, ?_⟩
        rw [e]
        show RC H3 v (tightC _ (sumC none _))
        rw [show ∀ t, sumC none t = none from fun _ => rfl, tight_none]
        exact hv3
      · refine ⟨d, some b, rfl, z, true, rfl, (if_pos rfl).mpr ?_⟩
        refine ⟨_, rfl, _, rfl, _, rfl, _, rfl, l, rfl, ⟨_, s13.seq (s1.seq hS)⟩, fun D hD => ?_⟩
        have hs3 := s13.seq (s1.seq hS)
        refine lc_map (S := Same) (walk_list (K := K) (a := l) (xs := L.map V.str)) (stp_same D) hD (by omega) (ofL L fun z => decide (z ≠ c)) (fun j H y => ∃ z, L[j]? = some z ∧ y = .str z) ?_ ?_ ?_ ?_ ?_
        · rintro j H4 H5 y s4 z
          exact z
        · rintro j H4 y acc o hacc z
          exact z
        · intro H4 s4
          exact s4.seq hs3
        · rintro j y H4 H5 acc N Z hj s4 hacc ⟨rfl, hy⟩ hyes hno
          obtain ⟨z, hz, rfl⟩ := at_map hy
          refine ⟨rfl, _, rfl, _, rfl, rfl, _, rfl, ?_⟩
          refine ite2 (fun h => ?_) (fun h => ?_)
          · have hne : z ≠ c := fun e => by
              rw [e] at h
              simp at h
            exact ⟨_, rfl, hyes (by rw [ofL_at hz]; exact decide_eq_true hne) _ _ (Same.refl _) ⟨z, hz, rfl⟩⟩
          · have he : z = c := by
              by_cases e : z = c
              · exact e
              · exact absurd (show (!decide (V.str z = V.str c)) = true by simp [e]) h
            exact hno (by rw [ofL_at hz]; exact decide_eq_false (fun z => z he)) _ (Same.refl _)
        · intro ys H4 s4 e4 r4
          rw [e0] at r4
          have r5 : Paired (fun z y => y = V.str z) (L.filter fun z => decide (z ≠ c)) ys := chosen_whole (fun j z y hz ⟨z', hz', e⟩ => by rw [hz] at hz'; cases hz'; exact e) r4
          have ey := paired_eq r5
          subst ey
          have s14 := s13.trans s4
          refine ⟨d, D, m, c, g, _, rfl, hD3.mono (fun o e => s4 _ _ e) fun v b h => h.mono fun a xs e => s4 _ _ e, hm, SqL.of e4, hnd.filter _, by omega, by omega, fun b2 H5 s5 r5 => ?_⟩
          rw [hfl] at r5
          have s15 := s14.trans s5
          have s35 := s4.trans s5
          have hD5 : DT RB H5 d m := hD1.mono (fun o e => s15 _ _ e) fun v b h => h.mono fun a xs e => s15 _ _ e
          refine ⟨_, rfl, _, rfl, _, rfl, _, rfl, (by show 2 ≤ sizeLine; decide), fun p3 hp3 => ?_⟩
          have s6 := same_new hp3 (.tup [.str x, .str c])
          have hD6 : DT RB (upd H5 p3 (.tup [.str x, .str c])) d m := hD5.mono (fun o e => s6 _ _ e) fun v b h => h.mono fun a xs e => s6 _ _ e
          have hp6 : IsPr (upd H5 p3 (.tup [.str x, .str c])) p3 (x, c) := upd_same
          have hv6 := (hv3.same s35).same s6
          have r6 := r5.same s6
          generalize upd H5 p3 (.tup [.str x, .str c]) = H6 at s6 hD6 hp6 hv6 r6
          rcases hD6.code hm hp6 with ⟨e', _⟩ | ⟨k', b', e', z', r'⟩
          · rw [e] at e'
            cases e'
          refine ⟨d, b', rfl, z', _, rfl, b', b2, _, _, rfl, r', r6, fun w1 H7 s7 r7 => ?_⟩
          refine ⟨v, w1, _, _, rfl, hv6.same s7, r7, fun w2 H8 s8 r8 => ?_⟩
          refine ⟨w2, _, _, _, rfl, ((s15.trans s6).trans s7).trans s8, ?_⟩
          rw [e']
          exact r8
    · rintro σ' H' ⟨v, u5, u6, u7, rfl, s2, hv⟩
      refine ⟨_, rfl, q _ _ (s1.trans s2) ?_⟩
      rw [wayC]
      rw [e0, List.take_length] at hv
      exact hv
end
end Rw
set_option Elab.async false
set_option linter.all false
set_option maxRecDepth 100000
set_option maxHeartbeats 8000000
namespace Rw
open PySem L2
abbrev sWays : Stmt := top 58
theorem codeM_none {m : List (Pr × Bd)} {x y : Str} (h : look m (x, y) = none) : codeM m x y = none := by unfold codeM; rw [h]; rfl
theorem codeM_some {m : List (Pr × Bd)} {x y : Str} {b : Bd} (h : look m (x, y) = some b) : codeM m x y = some (codeB b) := by unfold codeM; rw [h]; rfl
/-- what the law's ways tell, for some pairs in order -/
def waysL (c : Str → Str → Code') (ss : List Str) (ps : List Pr) : List (Pr × Bd) := ps.flatMap fun p => match W c ss p.1 p.2 with | some k => [(p, boundC k)] | none => []
theorem waysL_app {c : Str → Str → Code'} {ss : List Str} {ps qs : List Pr} : waysL c ss (ps ++ qs) = waysL c ss ps ++ waysL c ss qs := by unfold waysL; rw [List.flatMap_append]
theorem waysL_key {c : Str → Str → Code'} {ss : List Str} {ps : List Pr} {e : Pr × Bd} (h : e ∈ waysL c ss ps) : e.1 ∈ ps ∧ ∃ k, W c ss e.1.1 e.1.2 = some k ∧ e.2 = boundC k := by
  unfold waysL at h
  obtain ⟨p, hp, h⟩ := List.mem_flatMap.mp h
  cases e' : W c ss p.1 p.2 with
  | none => rw [e'] at h; cases h
  | some k =>
    rw [e'] at h
    cases List.mem_singleton.mp h
    exact ⟨hp, k, e', rfl⟩
theorem waysL_mk {c : Str → Str → Code'} {ss : List Str} {ps : List Pr} : Mk (waysL c ss ps) := fun e h => by
  obtain ⟨_, k, _, e2⟩ := waysL_key h
  rw [e2]
  exact boundC_s k
theorem waysL_in {c : Str → Str → Code'} {ss : List Str} {ps : List Pr} {p : Pr} {k : Int} (h : p ∈ ps) (e : W c ss p.1 p.2 = some k) : (p, boundC k) ∈ waysL c ss ps := by
  unfold waysL
  exact List.mem_flatMap.mpr ⟨p, h, by rw [e]; exact List.mem_singleton.mpr rfl⟩
theorem waysL_len {c : Str → Str → Code'} {ss : List Str} : ∀ {ps : List Pr}, (waysL c ss ps).length ≤ ps.length
  | [] => Nat.le_refl _
  | p :: ps => by
    have ih := waysL_len (c := c) (ss := ss) (ps := ps)
    have e : waysL c ss (p :: ps) = waysL c ss [p] ++ waysL c ss ps := waysL_app (ps := [p])
    have h1 : (waysL c ss [p]).length ≤ 1 := by
      unfold waysL
      rw [List.flatMap_cons, List.flatMap_nil, List.append_nil]
      split
      · exact Nat.le_refl _
      · exact Nat.zero_le _
    rw [e, List.length_append, List.length_cons]
    omega
theorem waysL_nd {c : Str → Str → Code'} {ss : List Str} : ∀ {ps : List Pr}, ps.Nodup → ((waysL c ss ps).map (·.1)).Nodup
  | [], _ => List.nodup_nil
  | p :: ps, h => by
    have h' := List.nodup_cons.mp h
    have ih := waysL_nd (c := c) (ss := ss) h'.2
    have e : waysL c ss (p :: ps) = waysL c ss [p] ++ waysL c ss ps := waysL_app (ps := [p])
    rw [e]
    unfold waysL at ih ⊢
    rw [List.flatMap_cons, List.flatMap_nil, List.append_nil]
    cases e' : W c ss p.1 p.2 with
    | none => exact ih
    | some k =>
      refine List.nodup_cons.mpr ⟨fun z => ?_, ih⟩
      obtain ⟨x, hx, ex⟩ := List.mem_map.mp z
      have := (waysL_key (c := c) (ss := ss) (ps := ps) hx).1
      have ex : x.1 = p := ex
      rw [ex] at this
      exact h'.1 this
theorem waysL_code {c : Str → Str → Code'} {ss : List Str} {ps : List Pr} (hn : ps.Nodup) (a b : Str) : codeM (waysL c ss ps) a b = if (a, b) ∈ ps then W c ss a b else none := by
  unfold codeM
  by_cases h : (a, b) ∈ ps
  · rw [if_pos h]
    cases e : W c ss a b with
    | none =>
      rw [look_none fun x hx z => ?_]
      · rfl
      · obtain ⟨_, k, e1, _⟩ := waysL_key hx
        rw [z, e] at e1
        cases e1
    | some k =>
      have z := look_of (waysL_nd hn) (waysL_in (ps := ps) (p := (a, b)) h e)
      have z : look (waysL c ss ps) (a, b) = some (boundC k) := z
      rw [z]
      exact congrArg some (code_bound k)
  · rw [if_neg h, look_none fun x hx z => ?_]
    · rfl
    · have z2 := (waysL_key hx).1
      rw [z] at z2
      exact h z2
theorem prsOf_iff {ns : List Str} {a b : Str} : (a, b) ∈ prsOf ns ↔ a ∈ ns ∧ b ∈ ns ∧ a ≠ b := by
  refine ⟨fun h => ?_, fun ⟨h1, h2, h3⟩ => ?_⟩
  · obtain ⟨h1, h2, h3⟩ := prsOf_mem h
    exact ⟨h1, h2, fun e => h3 e.symm⟩
  · exact List.mem_flatMap.mpr ⟨a, h1, List.mem_map.mpr ⟨b, List.mem_filter.mpr ⟨h2, decide_eq_true fun e => h3 e.symm⟩, rfl⟩⟩
section
variable {P : Program} {w : World} {K : PySem.W.Frag} {mg : Str → Option Value} {base : Heap}
def spWays (K : PySem.W.Frag) : Sp := fun vs H Q _ => ∃ (d l : Addr) (m : List (Pr × Bd)) (ss : List Str), vs = [.ref d, .ref l] ∧ DT RB H d m ∧ Mk m ∧ SqL K H l (ss.map V.str) ∧ ss.Nodup ∧ ss.length ≤ 5 ∧
  (LawBad (codeM m) ss → ∀ H', Same H H' → Q .non H') ∧ (¬ LawBad (codeM m) ss → ∀ r H', H r = none → Same H H' → DT RB H' r (waysL (codeM m) ss (prsOf ss)) → Q (.ref r) H')
def nWays : List Str := ["_law_bounds", "_law_ones", "_law_found", "_law_one_here", "_law_other_here", "_law_way_here", "_law_x"]
theorem scWays : FnScope nWays ["_law_bounds", "_law_ones"] (defScope sWays) := ⟨rfl, rfl, rfl, by decide +kernel, rfl, by decide +kernel, by decide +kernel⟩
theorem ok_ways {f fw fm fb : Addr} {fd fdw fdm fdb : FuncData} (F : Fun K "_law_ways" "_law_ways" sWays f fd)
    (GW : FnOk P w K mg base CX0 7 fw fdw ["_law_bounds", "_law_here", "_law_goal", "_law_left"] (spWay K 6)) (bW : Binds K fdw ["_law_bounds", "_law_here", "_law_goal", "_law_left"] []) (kW : PySem.W.keepIn K (.ref fw) = true) (mW : mg "_law_way" = some (.ref fw))
    (GM : FnOk P w K mg base CX0 1 fm fdm ["_law_one_here", "_law_other_here"] (spMore K)) (bM : Binds K fdm ["_law_one_here", "_law_other_here"] []) (kM : PySem.W.keepIn K (.ref fm) = true) (mM : mg "_law_more" = some (.ref fm))
    (GB : FnOk P w K mg base CX0 1 fb fdb ["_law_bound"] (spBars K)) (bB : Binds K fdb ["_law_bound"] []) (kB : PySem.W.keepIn K (.ref fb) = true) (mB : mg "_law_bars" = some (.ref fb)) :
    FnOk P w K mg base CX0 8 f fd ["_law_bounds", "_law_ones"] (spWays K) := by
  refine F.ok scWays (fun vs H Q E h => ?_) (fun cdv A outer s H vs Q E hr h => ?_)
  · obtain ⟨d, l, m, ss, rfl, _⟩ := h
    rfl
  obtain ⟨d, l, m, ss, rfl, hD, hm, hS, hnd, h5, qb, qg⟩ := h
  have hu := hu_of hr
  have hr1 : Room 1 _ := hr.mono (by decide)
  refine ⟨_, pss_cons (ps_set (i := 2) scWays.nd rfl (Or.inl rfl) pe_dnewT)
    (pss_cons (ps_for PassesOwn.never rfl (pi_list (pv 1)) (pg_name (i := 3) scWays.nd rfl (Or.inr rfl))
      (pss_one (ps_for PassesOwn.never rfl (pi_list (pv 1)) (pg_name (i := 4) scWays.nd rfl (Or.inr rfl))
        (pss_one (ps_if (pt_cmpR op_ne (pv 3) (pv 4) (nomark _))
          (pss_cons (ps_set (i := 5) scWays.nd rfl (Or.inl rfl) (pe_call GW hr rfl mW kW bW .nil pass0 (pa_cons (pv 0) (pa_cons (pv 3) (pa_cons (pv 4) (pa_cons
            (pe_lc (own := [("_law_x", 6)]) (g := gName 6) (tt := tTest (tOp (rIn K true) (tVar 6) (tTup (tCons (tVar 3) (tCons (tVar 4) tNil))))) rfl scWays.nd (pi_list (pv 1)) (blkOk_by (N := nWays) (sc := defScope sWays) (by decide +kernel)) (fun _ _ _ _ _ => pg_name (i := 6) scWays.nd rfl (Or.inl rfl)) (fun _ _ _ _ _ => pts_one (pt_cmpR op_notIn_seq (pv 6) (pe_tup (pa_cons (pv 3) (pa_cons (pv 4) pa_nil))) rfl)) (fun _ _ _ _ _ => pv 6)) pa_nil))))))
          (pss_one (ps_if (pt_cmpR op_notN (pv 5) pe_non (nomark _)) (pss_one (ps_dput hu (pv 2) (pe_tup (pa_cons (pv 3) (pa_cons (pv 4) pa_nil))) (pv 5) rfl)) pss_nil)))
          pss_nil)))))
    (pss_cons (ps_lock (ps_for PassesOwn.never rfl (pi_keys (pv 2)) (pg_tup rfl (pgs_cons (pg_name (i := 3) scWays.nd rfl (Or.inr rfl)) (pgs_cons (pg_name (i := 4) scWays.nd rfl (Or.inr rfl)) pgs_nil)))
      (pss_one (ps_if (pt_val (pe_call GB hr1 rfl mB kB bB .nil pass0 (pa_cons (pe_call GM hr1 rfl mM kM bM .nil pass0 (pa_cons (pe_dget hu (pv 2) (pe_tup (pa_cons (pv 3) (pa_cons (pv 4) pa_nil))) (fun _ _ => rfl)) (pa_cons
          (pe_dget1 hu (pv 2) (pe_tup (pa_cons (pv 4) (pa_cons (pv 3) pa_nil))) ⟨rfl, rfl, rfl, rfl⟩) pa_nil))) pa_nil))) (pss_one (ps_ret pe_non)) pss_nil))))
    (pss_one (ps_ret (pv 2))))), ?_⟩
  have e0 : (ss.map V.str).length = ss.length := List.length_map _
  have sz : ∀ {n : Nat}, n ≤ 1000 → n < sizeLine := fun h => small1000 h
  have pl25 : (prsOf ss).length ≤ 25 := Nat.le_trans (prsOf_len ss ss) (Nat.mul_le_mul h5 h5)
  intro r hr0
  have s1 := same_new hr0 (.dT [])
  have hr1' : (upd H r (.dT [])) r = some (.dT []) := upd_same
  generalize upd H r (.dT []) = H1 at s1 hr1'
  have hS1 := s1.seq hS
  have hD1 : DT RB H1 d m := hD.mono (fun o e => s1 _ _ e) fun v b h => h.mono fun a xs e => s1 _ _ e
  have hrn : r ≠ d := by
    obtain ⟨kvs, e, _⟩ := hD
    exact (ne_of_none e hr0).symm
  refine ⟨_, rfl, l, rfl, ⟨_, hS1⟩, for_list (xs := ss.map V.str) (fun i σ' H' => ∃ (u3 u4 u5 u6 : Option V), σ' = [some (.ref d), some (.ref l), some (.ref r), u3, u4, u5, u6] ∧ Same H H' ∧ DT RB H' r (waysL (codeM m) ss (prsOf' ss (ss.take i)))) ?_ ?_ ?_ ?_⟩
  · exact ⟨none, none, none, none, rfl, s1, [], hr1', .nil⟩
  · rintro i σ' H' _ ⟨u3, u4, u5, u6, rfl, s2, _⟩
    exact s2.seq hS
  · rintro i y σ' H' hx ⟨u3, u4, u5, u6, rfl, s2, hR⟩
    obtain ⟨a, ha, rfl⟩ := at_map hx
    have ham : a ∈ ss := List.mem_of_getElem? ha
    refine ⟨_, rfl, l, rfl, ⟨_, s2.seq hS⟩, for_list (xs := ss.map V.str) (fun j σ' H' => ∃ (u4 u5 u6 : Option V), σ' = [some (.ref d), some (.ref l), some (.ref r), some (.str a), u4, u5, u6] ∧ Same H H' ∧
      DT RB H' r (waysL (codeM m) ss (prsOf' ss (ss.take i) ++ ((ss.take j).filter fun b => decide (b ≠ a)).map fun b => (a, b)))) ?_ ?_ ?_ ?_⟩
    · exact ⟨u4, u5, u6, rfl, s2, by rw [List.take_zero, List.filter_nil, List.map_nil, List.append_nil]; exact hR⟩
    · rintro j σ' H' _ ⟨u4, u5, u6, rfl, s2, _⟩
      exact s2.seq hS
    · rintro j y σ' H2 hx ⟨u4, u5, u6, rfl, s3, hR3⟩
      obtain ⟨b, hb, rfl⟩ := at_map hx
      have hbm : b ∈ ss := List.mem_of_getElem? hb
      rw [take_snoc hb, List.filter_append, List.map_append, ← List.append_assoc, waysL_app]
      refine ⟨_, rfl, _, rfl, rfl, _, rfl, ?_⟩
      refine ite2 (fun h => ?_) (fun h => ?_)
      · have hne : a ≠ b := fun e => by
          rw [e] at h
          simp at h
        have hf : [b].filter (fun x => decide (x ≠ a)) = [b] := by
          rw [List.filter_cons, if_pos (decide_eq_true (show b ≠ a from fun e => hne e.symm)), List.filter_nil]
        rw [hf]
        refine ⟨_, rfl, _, rfl, _, rfl, _, rfl, l, rfl, ⟨_, s3.seq hS⟩, fun D hD' => ?_⟩
        refine lc_map (S := Same) (walk_list (K := K) (a := l) (xs := ss.map V.str)) (stp_same D) hD' (by omega) (ofL ss fun x => decide (x ≠ a ∧ x ≠ b)) (fun j H y => ∃ z, ss[j]? = some z ∧ y = .str z) ?_ ?_ ?_ ?_ ?_
        · rintro j H4 H5 y s4 z
          exact z
        · rintro j H4 y acc o hacc z
          exact z
        · intro H4 s4
          exact s4.seq (s3.seq hS)
        · rintro j y H4 H5 acc N Z hj s4 hacc ⟨rfl, hy⟩ hyes hno
          obtain ⟨z, hz, rfl⟩ := at_map hy
          refine ⟨rfl, _, rfl, _, rfl, _, rfl, (by show 2 ≤ sizeLine; decide), fun p hp => ⟨p, [.str a, .str b], rfl, .inr (SqT.of upd_same), rfl, rfl, _, rfl, ?_⟩⟩
          have e2 : (if true = true then !inV (.str z) [.str a, .str b] else inV (.str z) [.str a, .str b]) = decide (z ≠ a ∧ z ≠ b) := by
            rw [if_pos rfl, show [V.str a, V.str b] = [a, b].map V.str from rfl, inV_str, Bool.eq_iff_iff]
            simp
          rw [e2]
          have s5 := same_new hp (.tup [.str a, .str b])
          refine ite2 (fun h => ?_) (fun h => ?_)
          · exact ⟨_, rfl, hyes (by rw [ofL_at hz]; exact h) _ _ s5 ⟨z, hz, rfl⟩⟩
          · exact hno (by rw [ofL_at hz]; exact Bool.eq_false_iff.mpr h) _ s5
        · intro ys H4 s4 e4 r4
          rw [e0] at r4
          have r5 : Paired (fun z y => y = V.str z) (ss.filter fun x => decide (x ≠ a ∧ x ≠ b)) ys := chosen_whole (fun j z y hz ⟨z', hz', e⟩ => by rw [hz] at hz'; cases hz'; exact e) r4
          have ey := paired_eq r5
          subst ey
          have s14 := s3.trans s4
          have hle := List.length_filter_le (fun x => decide (x ≠ a ∧ x ≠ b)) ss
          refine ⟨d, D, m, a, b, _, rfl, hD.mono (fun o e => s14 _ _ e) fun v b h => h.mono fun a xs e => s14 _ _ e, hm, SqL.of e4, hnd.filter _, by omega, by omega, fun v H5 s5 r5 => ?_⟩
          have r5 : RC H5 v (W (codeM m) ss a b) := r5
          have hR5 : DT RB H5 r (waysL (codeM m) ss (prsOf' ss (ss.take i) ++ ((ss.take j).filter fun b => decide (b ≠ a)).map fun b => (a, b))) := hR3.mono (fun o e => s5 _ _ (s4 _ _ e)) fun v b h => h.mono fun a xs e => s5 _ _ (s4 _ _ e)
          have s15 := s14.trans s5
          refine ⟨_, rfl, rfl, _, rfl, ?_⟩
          rcases r5 with ⟨e, rfl⟩ | ⟨k, e, t, rfl, ht⟩
          · refine (if_neg (by decide)).mpr ⟨_, _, _, rfl, s15, ?_⟩
            have ez : waysL (codeM m) ss ([b].map fun b => (a, b)) = [] := by
              unfold waysL
              rw [List.map_cons, List.map_nil, List.flatMap_cons, List.flatMap_nil, e]
              rfl
            rw [ez, List.append_nil]
            exact hR5
          · refine (if_pos rfl).mpr ⟨_, rfl, _, rfl, _, rfl, _, rfl, (by show 2 ≤ sizeLine; decide), fun p hp => ?_⟩
            have hIp : IsPr (upd H5 p (.tup [.str a, .str b])) p (a, b) := upd_same
            have s6 := same_new hp (.tup [.str a, .str b])
            have hR6 := hR5.mono (fun o e => s6 _ _ e) fun v b h => h.mono (fun a xs e => s6 _ _ e)
            have abn : (a, b) ∉ prsOf' ss (ss.take i) ++ ((ss.take j).filter fun b => decide (b ≠ a)).map fun b => (a, b) := fun z => by
              rcases List.mem_append.mp z with z | z
              · exact not_before hnd ha (prsOf_mem z).1
              · obtain ⟨x, hx, ex⟩ := List.mem_map.mp z
                have ex : x = b := congrArg (·.2) ex
                rw [ex] at hx
                exact not_before hnd hb (List.mem_filter.mp hx).1
            have fresh : look (waysL (codeM m) ss (prsOf' ss (ss.take i) ++ ((ss.take j).filter fun b => decide (b ≠ a)).map fun b => (a, b))) (a, b) = none := look_none fun e he z => abn (z ▸ (waysL_key he).1)
            have hle2 : (waysL (codeM m) ss (prsOf' ss (ss.take i) ++ ((ss.take j).filter fun b => decide (b ≠ a)).map fun b => (a, b))).length ≤ 1000 := by
              refine Nat.le_trans waysL_len ?_
              rw [List.length_append, List.length_map]
              have z1 := prsOf_len ss (ss.take i)
              have z2 := List.length_filter_le (fun b => decide (b ≠ a)) (ss.take j)
              rw [List.length_take] at z1 z2
              have z3 : min i ss.length * ss.length ≤ 5 * 5 := Nat.mul_le_mul (by omega) h5
              omega
            obtain ⟨o, dp, dt⟩ := hR6.put hIp fresh (sz hle2) (b := boundC k) (show RB _ (.ref t) (boundC k) from ⟨t, rfl, s6 _ _ ht⟩) fun o kvs v b e h => h.mono fun a xs e2 => by rw [upd_ne (ne_of e2 e fun z => nomatch z)]; exact e2
            refine ⟨r, _, rfl, dp, _, _, _, rfl, fun x ox ex => ?_, ?_⟩
            · rw [upd_ne (ne_of_none ex hr0)]
              exact s6 _ _ (s15 _ _ ex)
            · have ez : waysL (codeM m) ss ([b].map fun b => (a, b)) = [((a, b), boundC k)] := by
                unfold waysL
                rw [List.map_cons, List.map_nil, List.flatMap_cons, List.flatMap_nil, e]
                rfl
              rw [ez]
              exact dt
      · have he : b = a := by
          by_cases e : a = b
          · exact e.symm
          · exact absurd (show (!decide (V.str a = V.str b)) = true by simp [e]) h
        subst he
        refine ⟨_, _, _, rfl, s3, ?_⟩
        have hf : [b].filter (fun x => decide (x ≠ b)) = [] := by
          rw [List.filter_cons, if_neg (by simp), List.filter_nil]
        rw [hf]
        show DT RB H2 r (_ ++ [])
        rw [List.append_nil]
        exact hR3
    · rintro σ' H2 ⟨u4, u5, u6, rfl, s3, hR3⟩
      refine ⟨_, _, _, _, rfl, s3, ?_⟩
      rw [e0, List.take_length] at hR3
      rw [take_snoc ha]
      have e1 : prsOf' ss (ss.take i ++ [a]) = prsOf' ss (ss.take i) ++ (ss.filter fun b => decide (b ≠ a)).map fun b => (a, b) := by
        unfold prsOf'
        rw [List.flatMap_append, List.flatMap_cons, List.flatMap_nil, List.append_nil]
      rw [e1]
      exact hR3
  rintro σ' H2 ⟨u3, u4, u5, u6, rfl, s2, hR⟩
  rw [e0, List.take_length] at hR
  have hprn := prsOf_nd hnd hnd
  obtain ⟨kvs, hkd, hpr⟩ := hR
  have hML : (waysL (codeM m) ss (prsOf ss)).length = kvs.length := Paired.length hpr
  refine ⟨r, .dT kvs, hkd, True.intro, fun od => ?_⟩
  have lk0 : Lk H2 (upd H2 r (.frz od (.dT kvs))) r od (.dT kvs) := Lk.first
  have hat : ∀ (H' : Hp) (a' : Addr) (x y : Str), Lk H2 H' r od (.dT kvs) → IsPr H' a' (x, y) → ∃ o, DGet H' r (.ref a') o ∧ RC H' (o.getD .non) (codeM (waysL (codeM m) ss (prsOf ss)) x y) ∧ (codeM (waysL (codeM m) ss (prsOf ss)) x y ≠ none → ∃ v, o = some v) := fun H' a' x y lk ha => by
    refine ⟨valV kvs (key2 (x, y)), .inr ⟨kvs, key2 (x, y), a', .inr ⟨od, lk.at'⟩, rfl, ha, rfl⟩, ?_⟩
    rcases pl_look (R := fun v b => RB H2 v b) (x, y) hpr with ⟨g1, g2⟩ | ⟨b, v, g1, g2, t, rfl, g3⟩
    · have e : codeM (waysL (codeM m) ss (prsOf ss)) x y = none := codeM_none g1
      rw [g2, e]
      exact ⟨.inl ⟨rfl, rfl⟩, fun z => absurd rfl z⟩
    · have e : codeM (waysL (codeM m) ss (prsOf ss)) x y = some (codeB b) := codeM_some g1
      rw [g2, e]
      exact ⟨RC.of ⟨t, rfl, lk.keep _ _ g3 (ne_of g3 hkd fun z => nomatch z)⟩ (waysL_mk _ (look_in g1)), fun _ => ⟨_, rfl⟩⟩
  refine ⟨_, rfl, r, od, rfl, .inr ⟨kvs, lk0.at', for_it walk_keysT (fun i σ' H' => ∃ (u3 u4 u5 u6 : Option V), σ' = [some (.ref d), some (.ref l), some (.ref r), u3, u4, u5, u6] ∧ Lk H2 H' r od (.dT kvs) ∧
    ∀ e ∈ (waysL (codeM m) ss (prsOf ss)).take i, badC (sumC (W (codeM m) ss e.1.1 e.1.2) (W (codeM m) ss e.1.2 e.1.1)) = false) ⟨_, _, _, _, rfl, lk0, fun e he => by rw [List.take_zero] at he; cases he⟩ ?_ ?_ ?_⟩⟩
  · rintro i σ' H' hi ⟨u3, u4, u5, u6, rfl, lk, _⟩
    exact lk.at'
  · rintro i x σ' H3 H4 hi ⟨u3, u4, u5, u6, rfl, lk, hb⟩ ⟨rfl, k, v, qa, hkv, rfl, hqa⟩
    obtain ⟨⟨⟨a, b⟩, bd⟩, he, hek, hev⟩ := paired_at hpr hkv
    have hek : k = key2 (a, b) := hek
    subst hek
    have hqa : IsPr H4 qa (a, b) := hqa
    have hem := List.mem_of_getElem? he
    obtain ⟨hpi, k, hk, _⟩ := waysL_key hem
    have hpi : (a, b) ∈ prsOf ss := hpi
    obtain ⟨ham, hbm, hab⟩ := prsOf_iff.mp hpi
    have hpj : (b, a) ∈ prsOf ss := prsOf_iff.mpr ⟨hbm, ham, hab.symm⟩
    have hk : W (codeM m) ss a b = some k := hk
    refine ⟨qa, _, rfl, SqT.of hqa, rfl, _, _, rfl, _, _, rfl, rfl, ?_⟩
    refine ⟨_, rfl, _, rfl, _, rfl, (by show 2 ≤ sizeLine; decide), fun p hp => ?_⟩
    have lk3 := lk.new hp (o := .tup [.str a, .str b])
    have hp3 : IsPr (upd H4 p (.tup [.str a, .str b])) p (a, b) := upd_same
    generalize upd H4 p (.tup [.str a, .str b]) = H5 at lk3 hp3
    obtain ⟨o, g1, g2, g3⟩ := hat H5 p a b lk3 hp3
    rw [waysL_code hprn, if_pos hpi] at g2 g3
    obtain ⟨v1, rfl⟩ := g3 (by rw [hk]; exact fun z => nomatch z)
    refine ⟨r, v1, rfl, g1, _, rfl, r, rfl, .inr ⟨kvs, .inr ⟨od, lk3.at'⟩⟩, _, rfl, _, rfl, (by show 2 ≤ sizeLine; decide), fun p2 hp2 => ?_⟩
    have lk4 := lk3.new hp2 (o := .tup [.str b, .str a])
    have hp4 : IsPr (upd H5 p2 (.tup [.str b, .str a])) p2 (b, a) := upd_same
    have g2' := g2.same (same_new hp2 (.tup [.str b, .str a]))
    generalize upd H5 p2 (.tup [.str b, .str a]) = H6 at lk4 hp4 g2'
    obtain ⟨o2, k1, k2, _⟩ := hat H6 p2 b a lk4 hp4
    rw [waysL_code hprn, if_pos hpj] at k2
    refine ⟨o2, k1, v1, _, _, _, rfl, g2', k2, fun w1 H7 s7 r7 => ⟨w1, _, rfl, r7, _, rfl, ?_⟩⟩
    have lk7 := lk4.same s7
    refine ite2 (fun h => ?_) (fun h => ?_)
    · exact ⟨lk7.at', qb ⟨a, b, ham, hbm, hab, h⟩ _ (s2.trans (lk7.back hkd))⟩
    · refine ⟨_, _, _, _, rfl, lk7, fun e he' => ?_⟩
      rw [take_snoc he] at he'
      rcases List.mem_append.mp he' with z | z
      · exact hb e z
      · cases List.mem_singleton.mp z
        exact Bool.eq_false_iff.mpr h
  · rintro σ' H3 ⟨u3, u4, u5, u6, rfl, lk, hb⟩
    refine ⟨lk.at', _, rfl, qg ?_ r _ hr0 (s2.trans (lk.back hkd)) ⟨kvs, upd_same, Rw.Paired.imp hpr fun e kv _ z => ⟨z.1, ?_⟩⟩⟩
    · rintro ⟨a, b, ham, hbm, hab, hbad⟩
      cases hw : W (codeM m) ss a b with
      | none =>
        rw [hw] at hbad
        exact Bool.noConfusion (show false = true from hbad)
      | some k =>
        have z := hb ((a, b), boundC k) (by rw [← hML, List.take_length]; exact waysL_in (p := (a, b)) (prsOf_iff.mpr ⟨ham, hbm, hab⟩) hw)
        have z : badC (sumC (W (codeM m) ss a b) (W (codeM m) ss b a)) = false := z
        rw [hbad] at z
        cases z
    · obtain ⟨t, e1, h⟩ := z.2
      exact ⟨t, e1, lk.back hkd _ _ h⟩
end
end Rw
set_option Elab.async false
set_option linter.all false
set_option maxRecDepth 100000
set_option maxHeartbeats 8000000
namespace Rw
open PySem L2
abbrev sHanded : Stmt := top 59
abbrev sTable : Stmt := top 60
/-- a bound as it is handed, apart from the pool -/
def RP (K : PySem.W.Frag) (p : Addr) : Hp → V → Bd → Prop := fun H v b => ∃ a, v = .ref a ∧ a ≠ p ∧ Seq K H a [wordV b.2, .int b.1]
theorem RP.ro {K : PySem.W.Frag} {p : Addr} {H : Hp} {v : V} {b : Bd} (h : RP K p H v b) : RO K H v (some b) := by
  obtain ⟨a, e, _, h⟩ := h
  exact .inr ⟨b, a, rfl, e, h⟩
theorem RP.but {K : PySem.W.Frag} {p : Addr} {H H' : Hp} {v : V} {b : Bd} (h : RP K p H v b) (s : But p H H') : RP K p H' v b := by
  obtain ⟨a, e, n, h⟩ := h
  exact ⟨a, e, n, h.but s n⟩
theorem RP.put {K : PySem.W.Frag} {p : Addr} {H : Hp} {d : Addr} {o : HO} {kvs : List (List Key × V)} {v : V} {b : Bd} (e : H d = some (.dT kvs)) (h : RP K p H v b) : RP K p (upd H d o) v b := by
  obtain ⟨a, e1, n, h⟩ := h
  refine ⟨a, e1, n, ?_⟩
  rcases h with ((h | ⟨z, h⟩) | h) | h
  · exact .inl (.inl (.inl (by rw [upd_ne (ne_of h e fun z => nomatch z)]; exact h)))
  · exact .inl (.inl (.inr ⟨z, by rw [upd_ne (ne_of h e fun z => nomatch z)]; exact h⟩))
  · exact .inl (.inr h)
  · exact .inr (sqT_put e (fun _ z => nomatch z) (fun _ _ z => nomatch z) h)
theorem keys_paired {β : Type} {R : V → β → Prop} {H : Hp} : ∀ {m : List (Pr × β)} {kvs : List (List Key × V)} {bs : List Addr}, Paired (fun e kv => kv.1 = key2 e.1 ∧ R kv.2 e.2) m kvs → Paired (fun (p : List Key × V) b => H b = some (.tup (p.1.map kV))) kvs bs → Paired (fun e b => IsPr H b e.1) m bs
  | _, _, _, .nil, .nil => .nil
  | _, _, _, .cons h t, .cons g u => .cons (by rw [h.1] at g; exact g) (keys_paired t u)
section
variable {P : Program} {w : World} {K : PySem.W.Frag} {mg : Str → Option Value} {base : Heap}
def spHanded (K : PySem.W.Frag) : Sp := fun vs H Q _ => ∃ (p d : Addr) (m : List (Pr × Bd)) (n : Nat), vs = [.ref p, .ref d] ∧ Pool H p n ∧ n + 2000 ≤ 1000000000 ∧ DT RB H d m ∧ (m.map (·.1)).Nodup ∧ m.length ≤ 1000 ∧
  ∀ (qs : List (Pr × Bd)) (r : Addr) (H' : Hp), qs.Perm m → H r = none → But p H H' → Pool H' p (n + 2000) → DT (RP K p) H' r qs → Q (.ref r) H'
def nHanded : List Str := ["_law_pool_here", "_law_bounds", "_law_found", "_law_pair", "_law_word_here", "_law_n"]
theorem scHanded : FnScope nHanded ["_law_pool_here", "_law_bounds"] (defScope sHanded) := ⟨rfl, rfl, rfl, by decide +kernel, rfl, by decide +kernel, by decide +kernel⟩
theorem ok_handed {f fm fw fo : Addr} {fd fdm fdw fdo : FuncData} (F : Fun K "_law_handed" "_law_handed" sHanded f fd)
    (GM : FnOk P w K mg base CX0 2 fm fdm ["_law_pool_here", "_law_things"] (spMixed K)) (bM : Binds K fdm ["_law_pool_here", "_law_things"] []) (kM : PySem.W.keepIn K (.ref fm) = true) (mM : mg "_law_mixed" = some (.ref fm))
    (GW : FnOk P w K mg base CX0 1 fw fdw ["_law_bound"] (spWord K)) (bW : Binds K fdw ["_law_bound"] []) (kW : PySem.W.keepIn K (.ref fw) = true) (mW : mg "_law_word" = some (.ref fw))
    (GO : FnOk P w K mg base CX0 2 fo fdo ["_law_pool_here", "_law_things"] (spOne K)) (bO : Binds K fdo ["_law_pool_here", "_law_things"] []) (kO : PySem.W.keepIn K (.ref fo) = true) (mO : mg "_law_one" = some (.ref fo))
    (mk : mg "list" = none) : FnOk P w K mg base CX0 3 f fd ["_law_pool_here", "_law_bounds"] (spHanded K) := by
  refine F.ok scHanded (fun vs H Q E h => ?_) (fun cdv A outer s H vs Q E hr h => ?_)
  · obtain ⟨p, d, m, n, rfl, _⟩ := h
    rfl
  obtain ⟨p, d, m, n, rfl, hP, hn, ⟨kvs, hd, hpr⟩, hnd, hml, q⟩ := h
  have hu := hu_of hr
  have hr1 : Room 1 _ := hr.mono (by decide)
  refine ⟨_, pss_cons (ps_set (i := 2) scHanded.nd rfl (Or.inl rfl) pe_dnewT)
    (pss_cons (ps_for PassesOwn.never rfl (pi_list (pe_call GM hr rfl mM kM bM .nil pass0 (pa_cons (pv 0) (pa_cons (pe_callTy (call_list_dT rfl) rfl mk PyProof.Rows.boot_list (pa_cons (pv 1) pa_nil)) pa_nil)))) (pg_name (i := 3) scHanded.nd rfl (Or.inl rfl))
      (pss_cons (ps_asg (pe_call GW hr1 rfl mW kW bW .nil pass0 (pa_cons (pe_dget hu (pv 1) (pv 3) (fun _ _ => rfl)) pa_nil)) (pg_tup rfl (pgs_cons (pg_name (i := 4) scHanded.nd rfl (Or.inl rfl)) (pgs_cons (pg_name (i := 5) scHanded.nd rfl (Or.inl rfl)) pgs_nil))))
      (pss_one (ps_dput hu (pv 2) (pv 3) (pe_call GO hr rfl mO kO bO .nil pass0 (pa_cons (pv 0) (pa_cons (pe_lst (pa_cons (pe_tup (pa_cons (pv 4) (pa_cons (pv 5) pa_nil))) (pa_cons (pe_lst (pa_cons (pv 4) (pa_cons (pv 5) pa_nil))) pa_nil))) pa_nil))) rfl))))
    (pss_one (ps_ret (pv 2)))), ?_⟩
  obtain ⟨pobj, hpo⟩ := hP.some
  have hdp : d ≠ p := ne_of hd hpo fun z => nomatch z
  intro r hr0
  have s1 := same_new hr0 (.dT [])
  have hrp : r ≠ p := hP.apart hr0
  have hrd : r ≠ d := (ne_of_none hd hr0).symm
  have hR1 : (upd H r (.dT [])) r = some (.dT []) := upd_same
  have hP1 := hP.new (o := .dT []) hr0
  have hd1 := s1 _ _ hd
  have hpr1 : Paired (fun e kv => kv.1 = key2 e.1 ∧ RB (upd H r (.dT [])) kv.2 e.2) m kvs := Rw.Paired.imp hpr fun e kv _ z => ⟨z.1, z.2.mono fun a xs e => s1 _ _ e⟩
  generalize upd H r (.dT []) = H1 at s1 hR1 hP1 hd1 hpr1
  refine ⟨_, rfl, _, rfl, d, kvs, rfl, .inl hd1, fun l bs hl hbs => ?_⟩
  have hbs : Paired (fun (p : List Key × V) b => H1 b = some (.tup (p.1.map kV))) kvs bs := hbs
  have tl := keys_paired (R := fun v b => RB H1 v b) hpr1 hbs
  have lb : bs.length = m.length := (Paired.length tl).symm
  have s2 := same_new hl (.lst (bs.map V.ref))
  have hP2 := hP1.new (o := .lst (bs.map V.ref)) hl
  have hlp : l ≠ p := hP1.apart hl
  refine ⟨p, l, bs.map V.ref, n, rfl, hP2, by rw [List.length_map]; omega, .inl (SqL.of upd_same), hlp, by rw [List.length_map]; omega, fun ys r2 H3 pm hr2 b3 hP3 er3 => ?_⟩
  rw [List.length_map] at hP3
  have b13 : But p H1 H3 := (But.of s2).trans b3
  have hr2p : r2 ≠ p := hP2.apart hr2
  have hR3 : H3 r = some (.dT []) := b13 _ _ hR1 hrp
  obtain ⟨cs, hcs, rfl⟩ := perm_map_inv pm
  obtain ⟨qs, hqs, tl2⟩ := perm_paired hcs tl
  have tk3 := b13.tk hP1
  have tl3 : Paired (fun e a => IsPr H3 a e.1) qs cs := Rw.Paired.imp tl2 fun e a _ h => tk3 _ _ h
  have hD3 : DT RB H3 d m := ⟨kvs, b13 _ _ hd1 hdp, Rw.Paired.imp hpr1 fun e kv _ z => ⟨z.1, z.2.mono tk3⟩⟩
  have hql : qs.length = m.length := hqs.length_eq
  have lc : cs.length = qs.length := (Paired.length tl3).symm
  have qnd : (qs.map (·.1)).Nodup := (hqs.map (·.1)).nodup_iff.mpr hnd
  have nr2 : r2 ≠ r := ne_of er3 hR3 fun z => nomatch z
  have bH3 : But p H H3 := (But.of s1).trans b13
  refine ⟨r2, rfl, ⟨_, SqL.of er3⟩, for_list (xs := cs.map V.ref) (fun i σ' H' => ∃ (u3 u4 u5 : Option V), σ' = [some (.ref p), some (.ref d), some (.ref r), u3, u4, u5] ∧ But2 p r H3 H' ∧ Pool H' p (n + bs.length + i) ∧ DT (RP K p) H' r (qs.take i)) ?_ ?_ ?_ ?_⟩
  · exact ⟨none, none, none, rfl, .refl, hP3, [], hR3, .nil⟩
  · rintro i σ' H' _ ⟨u3, u4, u5, rfl, hB, _⟩
    exact SqL.of (hB _ _ er3 hr2p nr2)
  · rintro i x σ' H' hx ⟨u3, u4, u5, rfl, hB, hPi, hD⟩
    obtain ⟨a, ha, rfl⟩ : ∃ a, cs[i]? = some a ∧ x = .ref a := by
      rw [List.getElem?_map] at hx
      cases e : cs[i]? with
      | none => rw [e] at hx; cases hx
      | some a => rw [e] at hx; exact ⟨a, rfl, (Option.some.inj hx).symm⟩
    obtain ⟨e, he, hia⟩ := paired_at tl3 ha
    have hil : i < qs.length := (List.getElem?_eq_some_iff.mp he).1
    obtain ⟨pxs, hp3⟩ := hP3.some
    have keepT : ∀ a xs, H3 a = some (.tup xs) → H' a = some (.tup xs) := fun a xs z => hB _ _ z (ne_of z hp3 fun z => nomatch z) (ne_of z hR3 fun z => nomatch z)
    have hia' : IsPr H' a e.1 := keepT _ _ hia
    have hem : e ∈ m := hqs.mem_iff.mp (List.mem_of_getElem? he)
    have hDm : DT RB H' d m := hD3.mono (fun o z => hB _ _ z hdp hrd.symm) fun v b h => h.mono keepT
    obtain ⟨o, g, ho⟩ := hDm.get hia'
    rw [look_of hnd hem] at ho
    rcases ho with ⟨z, _⟩ | ⟨b, v, hb, rfl, t, rfl, ht⟩
    · cases z
    cases hb
    refine ⟨_, rfl, _, rfl, d, _, rfl, g, t, e.2.1, e.2.2, rfl, SqT.of ht, fun w1 hw1 => ?_⟩
    refine ⟨w1, _, rfl, SqT.of upd_same, rfl, _, _, rfl, _, _, rfl, rfl, ?_⟩
    have s4 := same_new hw1 (.tup [wordV e.2.2, .int e.2.1])
    have hP4 := hPi.new (o := .tup [wordV e.2.2, .int e.2.1]) hw1
    generalize upd H' w1 (.tup [wordV e.2.2, .int e.2.1]) = H4 at s4 hP4
    refine ⟨_, rfl, _, rfl, _, rfl, (by show 2 ≤ sizeLine; decide), fun a1 h1 => ⟨_, rfl, _, rfl, (by show 2 ≤ sizeLine; decide), fun a2 h2 => ⟨(by show 2 ≤ sizeLine; decide), fun a3 h3 => ?_⟩⟩⟩
    have s5 := same_new h1 (.tup [wordV e.2.2, .int e.2.1])
    have s6 := same_new h2 (.lst [wordV e.2.2, .int e.2.1])
    have s7 := same_new h3 (.lst [.ref a1, .ref a2])
    have hP5 := hP4.new (o := .tup [wordV e.2.2, .int e.2.1]) h1
    have hP6 := hP5.new (o := .lst [wordV e.2.2, .int e.2.1]) h2
    have hP7 := hP6.new (o := .lst [.ref a1, .ref a2]) h3
    have n1 := hP4.apart h1
    have n2 := hP5.apart h2
    have n3 := hP6.apart h3
    have e1 : (upd (upd (upd H4 a1 (.tup [wordV e.2.2, .int e.2.1])) a2 (.lst [wordV e.2.2, .int e.2.1])) a3 (.lst [.ref a1, .ref a2])) a1 = some (.tup [wordV e.2.2, .int e.2.1]) := s7 _ _ (s6 _ _ upd_same)
    have e2 : (upd (upd (upd H4 a1 (.tup [wordV e.2.2, .int e.2.1])) a2 (.lst [wordV e.2.2, .int e.2.1])) a3 (.lst [.ref a1, .ref a2])) a2 = some (.lst [wordV e.2.2, .int e.2.1]) := s7 _ _ upd_same
    have e3 : (upd (upd (upd H4 a1 (.tup [wordV e.2.2, .int e.2.1])) a2 (.lst [wordV e.2.2, .int e.2.1])) a3 (.lst [.ref a1, .ref a2])) a3 = some (.lst [.ref a1, .ref a2]) := upd_same
    have s47 := ((s4.trans s5).trans s6).trans s7
    generalize upd (upd (upd H4 a1 (.tup [wordV e.2.2, .int e.2.1])) a2 (.lst [wordV e.2.2, .int e.2.1])) a3 (.lst [.ref a1, .ref a2]) = H7 at hP7 e1 e2 e3 s47
    clear s4 s5 s6 s7 hP4 hP5 hP6
    refine ⟨p, a3, _, _, rfl, hP7, by omega, .inl (SqL.of e3), n3, Nat.succ_pos _, (by show 2 ≤ 10000; decide), fun k v o hk hP8 => ?_⟩
    have b8 : But p H' (upd H7 p o) := (But.of s47).put
    have rv : RP K p (upd H7 p o) v e.2 := by
      match k, hk with
      | 0, hk =>
        cases hk
        exact ⟨a1, rfl, n1, .inr (SqT.of (by rw [upd_ne n1]; exact e1))⟩
      | 1, hk =>
        cases hk
        exact ⟨a2, rfl, n2, .inl (SqL.of (by rw [upd_ne n2]; exact e2))⟩
      | k + 2, hk => cases hk
    have hD8 : DT (RP K p) (upd H7 p o) r (qs.take i) := hD.mono (fun o z => b8 _ _ z hrp) fun v b h => h.but b8
    have hia8 : IsPr (upd H7 p o) a e.1 := b8.tk hPi _ _ hia'
    have fresh : look (qs.take i) e.1 = none := look_none fun e' he' z => by
      have h1 : (qs.map (·.1))[i]? = some e.1 := by rw [List.getElem?_map, he]; rfl
      refine not_before qnd h1 ?_
      rw [← z, ← List.map_take]
      exact List.mem_map.mpr ⟨e', he', rfl⟩
    have hkl : (qs.take i).length < sizeLine := by
      rw [List.length_take]
      exact small1000 (by omega)
    obtain ⟨o2, dp, dt⟩ := hD8.put hia8 fresh hkl rv fun o kvs v b e h => RP.put e h
    refine ⟨_, rfl, _, rfl, r, _, rfl, dp, _, _, _, rfl, ((hB.trans (But2.of b8)).put), (hP8.mono (by omega)).ne hrp, ?_⟩
    rw [take_snoc he]
    exact dt
  · rintro σ' H' ⟨u3, u4, u5, rfl, hB, hPi, hD⟩
    rw [List.length_map, lc, List.take_length] at hD
    rw [List.length_map] at hPi
    refine ⟨_, rfl, q qs r H' hqs hr0 (fun b o eb nb => ?_) (hPi.mono (by omega)) hD⟩
    exact hB _ _ (bH3 _ _ eb nb) nb (ne_of_none eb hr0)
end
end Rw
set_option Elab.async false
set_option linter.all false
set_option maxRecDepth 100000
set_option maxHeartbeats 8000000
namespace Rw
open PySem L2
def optM (m : List (Pr × Bd)) : List (Pr × Option Bd) := m.map fun e => (e.1, some e.2)
theorem look_opt {m : List (Pr × Bd)} {q : Pr} : look (optM m) q = (look m q).map some := by
  unfold optM
  induction m with
  | nil => rfl
  | cons e m ih =>
    rw [List.map_cons]
    by_cases c : e.1 = q
    · rw [look_pos c, look_pos (e := (e.1, some e.2)) c]
      rfl
    · rw [look_neg c, look_neg (e := (e.1, some e.2)) c, ih]
theorem keptB_congr {m1 m2 : List (Pr × Option Bd)} {ps : List Pr} (h : ∀ p ∈ ps, (look m1 p).getD none = (look m2 p).getD none) : keptB m1 ps = keptB m2 ps := by
  induction ps with
  | nil => rfl
  | cons p ps ih =>
    have e1 : ∀ m : List (Pr × Option Bd), keptB m (p :: ps) = keptB m [p] ++ keptB m ps := fun m => by
      unfold keptB
      rw [← List.filterMap_append]
      rfl
    rw [e1, e1, ih fun q hq => h q (List.mem_cons_of_mem _ hq)]
    congr 1
    have z := h p List.mem_cons_self
    unfold keptB
    rw [List.filterMap_cons, List.filterMap_cons, z, List.filterMap_nil, List.filterMap_nil]
theorem look_perm {β : Type} {qs m : List (Pr × β)} (h : qs.Perm m) (hn : (m.map (·.1)).Nodup) (q : Pr) : look qs q = look m q := by
  have hn2 : (qs.map (·.1)).Nodup := (h.map (·.1)).nodup_iff.mpr hn
  cases e : look m q with
  | none =>
    refine look_none fun x hx z => ?_
    have z2 := look_of hn (h.mem_iff.mp hx)
    rw [z, e] at z2
    cases z2
  | some b =>
    have z := look_of hn2 (h.mem_iff.mpr (look_in e))
    exact z
theorem GoodB.keys {ns : List Str} {m : List (Pr × Bd)} (h : GoodB ns m) : ∀ e ∈ m, e.1.1 ∈ ns ∧ e.1.2 ∈ ns ∧ e.1.1 ≠ e.1.2 := fun e he => by
  obtain ⟨h1, h2, h3⟩ := prsOf_mem (h.2 e he).1
  exact ⟨h1, h2, fun z => h3 z.symm⟩
theorem GoodB.mk {ns : List Str} {m : List (Pr × Bd)} (h : GoodB ns m) : Rw.Mk m := fun e he => (h.2 e he).2.2.2
theorem GoodB.few {ns : List Str} {m : List (Pr × Bd)} (h : GoodB ns m) (hn : ns.length ≤ 8) : m.length ≤ 64 := by
  have z := nodup_le h.1 (ys := prsOf ns) fun x hx => by
    obtain ⟨e, he, rfl⟩ := List.mem_map.mp hx
    exact (h.2 e he).1
  rw [List.length_map] at z
  have z2 : (prsOf ns).length ≤ ns.length * ns.length := prsOf_len ns ns
  have z3 : ns.length * ns.length ≤ 8 * 8 := Nat.mul_le_mul hn hn
  omega
theorem strOk_menu : ∀ x ∈ menu, PyData.strOk x = true := by decide +kernel
section
variable {P : Program} {w : World} {K : PySem.W.Frag} {mg : Str → Option Value} {base : Heap}
/-- the names that are drawn -/
structure Drawn (ns : List Str) : Prop where
  nd : (spots ns).Nodup
  sub : ∀ x ∈ ns, x ∈ menu
  few : ns.length ≤ 7
def spTable (K : PySem.W.Frag) (C : Addr) : Sp := fun vs H Q _ => ∃ (p l d : Addr) (ns : List Str) (m : List (Pr × Bd)) (n : Nat), vs = [.ref p, .ref l, .ref d] ∧ Pool H p n ∧ n + 3000 ≤ 1000000000 ∧ SqL K H l (ns.map V.str) ∧ l ≠ p ∧ Drawn ns ∧ DT RB H d m ∧ GoodB (spots ns) m ∧
  ∀ (t : Addr) (H' : Hp), H t = none → But p H H' → Pool H' p (n + 3000) → Tab K C H' t ns (keptB (optM m) (crossP (spots ns) (spots ns))) → Q (.ref t) H'
def nTable : List Str := ["_law_pool_here", "_law_names_here", "_law_bounds"]
theorem scTable : FnScope nTable nTable (defScope sTable) := ⟨rfl, rfl, rfl, by decide +kernel, rfl, by decide +kernel, by decide +kernel⟩
theorem ok_table {f fo fh ft C : Addr} {fd fdo fdh fdt : FuncData} (F : Fun K "_law_table" "_law_table" sTable f fd)
    (GO : FnOk P w K mg base CX0 2 fo fdo ["_law_pool_here", "_law_things"] (spOne K)) (bO : Binds K fdo ["_law_pool_here", "_law_things"] []) (kO : PySem.W.keepIn K (.ref fo) = true) (mO : mg "_law_one" = some (.ref fo))
    (GH : FnOk P w K mg base CX0 3 fh fdh ["_law_pool_here", "_law_bounds"] (spHanded K)) (bH : Binds K fdh ["_law_pool_here", "_law_bounds"] []) (kH : PySem.W.keepIn K (.ref fh) = true) (mH : mg "_law_handed" = some (.ref fh))
    (GT : FnOk P w K mg base CX0 4 ft fdt ["self", "names", "bounds"] (spTInit K C)) (MT : L2.Mk K C ft) (bT : Binds K fdt ["self", "names", "bounds"] []) (mC : mg "Table" = some (.ref C)) (mk : mg "list" = none) (mt : mg "tuple" = none) :
    FnOk P w K mg base CX0 6 f fd nTable (spTable K C) := by
  refine F.ok scTable (fun vs H Q E h => ?_) (fun cdv A outer s H vs Q E hr h => ?_)
  · obtain ⟨p, l, d, ns, m, n, rfl, _⟩ := h
    rfl
  obtain ⟨p, l, d, ns, m, n, rfl, hP, hn, hS, hlp, hdr, hD, hg, q⟩ := h
  refine ⟨_, pss_one (ps_ret (pe_make MT GT hr rfl mC bT .nil pass0 (pa_cons
      (pe_call GO (hr.mono (by decide)) rfl mO kO bO .nil pass0 (pa_cons (pv 0) (pa_cons (pe_lst (pa_cons (pe_callTy call_list_of rfl mk PyProof.Rows.boot_list (pa_cons (pv 1) pa_nil)) (pa_cons (pe_callTy (call_tupOf (K := K) rfl) rfl mt PyProof.Rows.boot_tuple (pa_cons (pv 1) pa_nil)) pa_nil))) pa_nil)))
      (pa_cons (pe_call GH (hr.mono (by decide)) rfl mH kH bH .nil pass0 (pa_cons (pv 0) (pa_cons (pv 2) pa_nil))) pa_nil)))), ?_⟩
  have few : m.length ≤ 64 := hg.few (by rw [List.length_cons]; exact Nat.succ_le_succ hdr.few)
  refine ⟨_, rfl, _, rfl, l, _, rfl, .inl hS, fun a1 h1 => ⟨_, rfl, l, _, rfl, .inl ⟨(same_new h1 _).seq hS, fun a2 h2 => ⟨(by show 2 ≤ sizeLine; decide), fun a3 h3 => ?_⟩⟩⟩⟩
  have s1 := same_new h1 (.lst (ns.map V.str))
  have s2 := same_new h2 (.tup (ns.map V.str))
  have s3 := same_new h3 (.lst [.ref a1, .ref a2])
  have hP1 := hP.new (o := .lst (ns.map V.str)) h1
  have hP2 := hP1.new (o := .tup (ns.map V.str)) h2
  have hP3 := hP2.new (o := .lst [.ref a1, .ref a2]) h3
  have n1 := hP.apart h1
  have n2 := hP1.apart h2
  have n3 := hP2.apart h3
  have e1 : (upd (upd (upd H a1 (.lst (ns.map V.str))) a2 (.tup (ns.map V.str))) a3 (.lst [.ref a1, .ref a2])) a1 = some (.lst (ns.map V.str)) := s3 _ _ (s2 _ _ upd_same)
  have e2 : (upd (upd (upd H a1 (.lst (ns.map V.str))) a2 (.tup (ns.map V.str))) a3 (.lst [.ref a1, .ref a2])) a2 = some (.tup (ns.map V.str)) := s3 _ _ upd_same
  have e3 : (upd (upd (upd H a1 (.lst (ns.map V.str))) a2 (.tup (ns.map V.str))) a3 (.lst [.ref a1, .ref a2])) a3 = some (.lst [.ref a1, .ref a2]) := upd_same
  have s13 := (s1.trans s2).trans s3
  generalize upd (upd (upd H a1 (.lst (ns.map V.str))) a2 (.tup (ns.map V.str))) a3 (.lst [.ref a1, .ref a2]) = H3 at hP3 e1 e2 e3 s13
  clear s1 s2 s3 hP1 hP2
  refine ⟨p, a3, _, _, rfl, hP3, by omega, .inl (SqL.of e3), n3, Nat.succ_pos _, (by show 2 ≤ 10000; decide), fun k v o hk hP4 => ?_⟩
  have b4 : But p H (upd H3 p o) := (But.of s13).put
  obtain ⟨a, rfl, hap, hT⟩ : ∃ a, v = .ref a ∧ a ≠ p ∧ TxS K (upd H3 p o) a ns := by
    match k, hk with
    | 0, hk =>
      cases hk
      exact ⟨a1, rfl, n1, .inl (SqL.of (by rw [upd_ne n1]; exact e1))⟩
    | 1, hk =>
      cases hk
      exact ⟨a2, rfl, n2, .inr (SqT.of (by rw [upd_ne n2]; exact e2))⟩
    | k + 2, hk => cases hk
  obtain ⟨pxs, hpo⟩ := hP.some
  have hdp : d ≠ p := by
    obtain ⟨kvs, e, _⟩ := hD
    exact ne_of e hpo fun z => nomatch z
  have hD4 : DT RB (upd H3 p o) d m := hD.mono (fun o e => b4 _ _ e hdp) fun v b h => h.mono (b4.tk hP)
  generalize upd H3 p o = H4 at hP4 b4 hT hD4
  refine ⟨_, rfl, _, rfl, p, d, m, _, rfl, hP4, by omega, hD4, hg.1, by omega, fun qs r H5 hqs hr5 b5 hP5 hR5 => ?_⟩
  have hT5 : TxS K H5 a ns := hT.but b5 hap
  intro x dx hx hdx hne
  have sM : Same H5 (upd (upd H5 dx (.own x)) x (.ins C dx [])) := fun b o e => by
    rw [upd_ne (ne_of_none e hx), upd_ne (ne_of_none e hdx)]
    exact e
  have hRO : DT (RO K) H5 r (optM qs) := by
    obtain ⟨kvs, e, z⟩ := hR5
    refine ⟨kvs, e, ?_⟩
    unfold optM
    exact paired_map (f := fun e : Pr × Bd => (e.1, some e.2)) (F := fun e kv => kv.1 = key2 e.1 ∧ RO K H5 kv.2 e.2) (Rw.Paired.imp z fun e kv _ y => ⟨y.1, y.2.ro⟩)
  have M5 : Makes K H5 a r ns (optM qs) := by
    refine ⟨hT5, hdr.nd, fun x hx => ⟨nameB_menu x (hdr.sub x hx), Nat.le_trans (len_menu x (hdr.sub x hx)) (by decide)⟩, fun x hx => strOk_menu x (hdr.sub x hx), Nat.le_trans hdr.few (by decide), hRO, fun e he => ?_, ?_⟩
    · unfold optM at he
      obtain ⟨e', he', rfl⟩ := List.mem_map.mp he
      exact hg.keys e' (hqs.mem_iff.mp he')
    · unfold optM
      rw [List.length_map, hqs.length_eq]
      omega
  refine ⟨H5, x, dx, a, r, ns, _, rfl, sM, hx, upd_same, M5.same sM, fun H6 s6 T => ⟨rfl, ?_⟩⟩
  have b6 : But p H H6 := (b4.trans b5).trans (But.of s6)
  refine q x H6 ?_ b6 ?_ ?_
  · have hxp : x ≠ p := by
      obtain ⟨_, e⟩ := hP5.some
      exact (ne_of_none e hx).symm
    exact (b4.trans b5).none hx hxp
  · obtain ⟨u1, u2, u3, e, z⟩ := hP5.mono (show _ ≤ n + 3000 by omega)
    exact ⟨u1, u2, u3, s6 _ _ e, z⟩
  · rw [keptB_congr (m2 := optM qs) fun q _ => by rw [look_opt, look_opt, look_perm hqs hg.1]]
    exact T
end
end Rw
set_option Elab.async false
set_option linter.all false
set_option maxRecDepth 100000
set_option maxHeartbeats 4000000
namespace Rw
open PySem L2
theorem RB.putL {H : Hp} {d : Addr} {u o : HO} {v : V} {b : Bd} (e : H d = some u) (n : ∀ ys, u ≠ .tup ys) (h : RB H v b) : RB (upd H d o) v b := h.mono (Tk.upd e n)
theorem look_hand {M : Mat} {ss : List Str} (hn : ss.Nodup) {i j : Nat} {a b : Str} (ha : ss[i]? = some a) (hb : ss[j]? = some b) : (look (handM M ss ss.length) (a, b)).getD none = if a = b then none else (matAt M i j).map boundC := by
  have hi := (List.getElem?_eq_some_iff.mp ha).1
  have hj := (List.getElem?_eq_some_iff.mp hb).1
  cases e : look (handM M ss ss.length) (a, b) with
  | none =>
    by_cases c : a = b
    · rw [if_pos c]
      rfl
    · have hij : i ≠ j := fun z => by
        subst z
        rw [ha] at hb
        exact c (Option.some.inj hb)
      have hm : ((a, b), (matAt M i j).map boundC) ∈ handM M ss ss.length := by
        unfold handM rowM
        refine List.mem_flatMap.mpr ⟨i, List.mem_range.mpr hi, List.mem_map.mpr ⟨j, List.mem_filter.mpr ⟨List.mem_range.mpr hj, decide_eq_true hij⟩, ?_⟩⟩
        rw [ha, hb]
        rfl
      exact absurd e (look_mem hm)
  | some x =>
    obtain ⟨i', j', h1, h2, h3, h4, h5⟩ := handM_key (look_in e)
    have h4 : (a, b) = (ss[i']?.getD "", ss[j']?.getD "") := h4
    have h5 : x = (matAt M i' j').map boundC := h5
    rw [List.getElem?_eq_getElem h1, List.getElem?_eq_getElem h2] at h4
    have e1 : ss[i']? = some a := by rw [List.getElem?_eq_getElem h1]; exact congrArg (fun z : Str × Str => some z.1) h4.symm
    have e2 : ss[j']? = some b := by rw [List.getElem?_eq_getElem h2]; exact congrArg (fun z : Str × Str => some z.2) h4.symm
    have z1 := at_inj hn e1 ha
    have z2 := at_inj hn e2 hb
    subst z1 z2
    have hab : a ≠ b := fun z => by
      subst z
      exact h3 (at_inj hn e1 e2)
    rw [if_neg hab, h5]
    rfl
theorem look_ways {c : Str → Str → Code'} {ss : List Str} (hn : ss.Nodup) {x y : Str} (h : (x, y) ∈ prsOf ss) : look (waysL c ss (prsOf ss)) (x, y) = (W c ss x y).map boundC := by
  cases e : W c ss x y with
  | none =>
    refine look_none fun z hz e2 => ?_
    obtain ⟨_, k, e3, _⟩ := waysL_key hz
    rw [e2, e] at e3
    cases e3
  | some k => exact look_of (waysL_nd (prsOf_nd hn hn)) (waysL_in (p := (x, y)) h e)
theorem opt_get {x : Option Bd} : (x.map some).getD none = x := by cases x <;> rfl
theorem kept_len {ns : List Str} : (spots ns).length = ns.length + 1 := List.length_cons ..
theorem lst_apart {H : Hp} {l p : Addr} {n : Nat} {ns : List Str} (h : H l = some (.lst (ns.map V.str))) (hP : Pool H p n) : l ≠ p := by
  obtain ⟨a, b, c, e, _⟩ := hP
  refine ne_of h e fun z => ?_
  injection z with z
  cases ns with
  | nil => cases z
  | cons x ns => injection z with z _; cases z
theorem sqT_pool {K : PySem.W.Frag} {H H' : Hp} {p a : Addr} {n : Nat} {xs : List V} (b : But p H H') (hP : Pool H p n) (h : SqT K H a xs) : SqT K H' a xs := by
  obtain ⟨ys, hp⟩ := hP.some
  rcases h with (h | ⟨o, h⟩) | h
  · exact .inl (.inl (b _ _ h (ne_of h hp fun z => nomatch z)))
  · exact .inl (.inr ⟨o, b _ _ h (ne_of h hp fun z => nomatch z)⟩)
  · exact .inr h
theorem Tab.but {K : PySem.W.Frag} {C : Addr} {H H' : Hp} {p t : Addr} {n : Nat} {ns : List Str} {m : List (Pr × Bd)} (h : Tab K C H t ns m) (hP : Pool H p n) (b : But p H H') : Tab K C H' t ns m := by
  obtain ⟨ok, dx, l, d, e1, e2, kvs, e3, r⟩ := h
  obtain ⟨ys, hp⟩ := hP.some
  refine ⟨ok, dx, l, d, b _ _ e1 (ne_of e1 hp fun z => nomatch z), b _ _ e2 (lst_apart e2 hP), kvs, b _ _ e3 (ne_of e3 hp fun z => nomatch z), Rw.Paired.imp r fun x y _ z => ⟨z.1, ?_⟩⟩
  obtain ⟨a, ea, h⟩ := z.2
  exact ⟨a, ea, sqT_pool b hP h⟩
theorem DT.but {H H' : Hp} {p d : Addr} {n : Nat} {m : List (Pr × Bd)} (h : DT RB H d m) (hP : Pool H p n) (b : But p H H') : DT RB H' d m := by
  obtain ⟨ys, hp⟩ := hP.some
  refine h.mono (fun o e => ?_) fun v c z => z.mono (b.tk hP)
  obtain ⟨kvs, e3, _⟩ := h
  exact b _ _ e (ne_of e3 hp fun z => nomatch z)
theorem look_kept {m : List (Pr × Option Bd)} {p : Pr} : ∀ {ps : List Pr}, look (keptB m ps) p = if p ∈ ps then (look m p).getD none else none
  | [] => rfl
  | q :: ps => by
    have ih := look_kept (m := m) (p := p) (ps := ps)
    unfold keptB at ih ⊢
    rw [List.filterMap_cons]
    by_cases c : q = p
    · subst c
      rw [if_pos List.mem_cons_self]
      cases e : (look m q).getD none with
      | none =>
        show look (List.filterMap _ ps) q = none
        rw [ih, e]
        split <;> rfl
      | some b => exact look_pos rfl
    · have hm : (p ∈ q :: ps) ↔ p ∈ ps := ⟨fun h => (List.mem_cons.mp h).resolve_left fun z => c z.symm, List.mem_cons_of_mem _⟩
      cases e : (look m q).getD none with
      | none =>
        show look (List.filterMap _ ps) p = _
        rw [ih]
        by_cases z : p ∈ ps
        · rw [if_pos z, if_pos (hm.mpr z)]
        · rw [if_neg z, if_neg fun y => z (hm.mp y)]
      | some b =>
        show look ((q, b) :: List.filterMap _ ps) p = _
        rw [look_neg c, ih]
        by_cases z : p ∈ ps
        · rw [if_pos z, if_pos (hm.mpr z)]
        · rw [if_neg z, if_neg fun y => z (hm.mp y)]
theorem codeM_kept {ns : List Str} {m : List (Pr × Bd)} (hg : GoodB (spots ns) m) : codeM (keptB (optM m) (crossP (spots ns) (spots ns))) = codeM m := by
  funext a b
  unfold codeM
  rw [look_kept, look_opt, opt_get]
  split
  · rfl
  · rename_i h
    rw [look_none fun e he z => h (mem_crossP.mpr ?_)]
    have k := hg.keys e he
    rw [z] at k
    exact ⟨k.1, k.2.1⟩
theorem edge_good {ns : List Str} {m : List (Pr × Bd)} (hg : GoodB (spots ns) m) : Edge (codeM m) (spots ns) := fun x y v h => by
  unfold codeM at h
  cases e : look m (x, y) with
  | none => rw [e] at h; cases h
  | some b => exact hg.keys _ (look_in e)
abbrev wsOf (ns : List Str) (m : List (Pr × Bd)) : List (Pr × Bd) := waysL (codeM m) (spots ns) (prsOf (spots ns))
abbrev tabM (ns : List Str) (m : List (Pr × Bd)) : List (Pr × Bd) := keptB (optM m) (crossP (spots ns) (spots ns))
theorem told_law {ns : List Str} {m : List (Pr × Bd)} (hd : Drawn ns) (hg : GoodB (spots ns) m) :
    (shutM (ns.length + 1) (gridM ns (tabM ns m)) = none ∧ LawBad (codeM m) (spots ns)) ∨ ∃ M', shutM (ns.length + 1) (gridM ns (tabM ns m)) = some M' ∧ ¬ LawBad (codeM m) (spots ns) ∧
      ∀ i j a b, (spots ns)[i]? = some a → (spots ns)[j]? = some b → matAt M' i j = if a = b then some 1 else W (codeM m) (spots ns) a b :=
  shut_law kept_len hd.nd (edge_good hg) (Nat.succ_pos _) gridM_sq fun i j a b ha hb => by rw [gridM_at ha hb, codeM_kept hg]
theorem prs_spots {ns : List Str} {p : Pr} (h : p ∈ prsOf (spots ns)) : p.1 ∈ spots ns ∧ p.2 ∈ spots ns ∧ p.1 ≠ p.2 := by
  obtain ⟨a, b⟩ := p
  exact prsOf_iff.mp h
theorem prs_few {ns : List Str} (h : ns.length ≤ 7) : (prsOf (spots ns)).length ≤ 64 := by
  have z := prsOf_len (spots ns) (spots ns)
  rw [List.length_cons] at z
  exact Nat.le_trans z (Nat.mul_le_mul (by omega : ns.length + 1 ≤ 8) (by omega : ns.length + 1 ≤ 8))
theorem wsOf_few {ns : List Str} {m : List (Pr × Bd)} (h : ns.length ≤ 7) : (wsOf ns m).length ≤ 64 := Nat.le_trans waysL_len (prs_few h)
theorem optM_keys {m : List (Pr × Bd)} {F : Pr → Prop} (h : ∀ e ∈ m, F e.1) : ∀ e ∈ optM m, F e.1 := fun e he => by
  unfold optM at he
  obtain ⟨e', he', rfl⟩ := List.mem_map.mp he
  exact h e' he'
theorem DT.opt {K : PySem.W.Frag} {H : Hp} {d : Addr} {m : List (Pr × Bd)} (h : DT (RW K) H d m) : DT (RO K) H d (optM m) := by
  obtain ⟨kvs, e, z⟩ := h
  refine ⟨kvs, e, ?_⟩
  unfold optM
  refine paired_map (f := fun e : Pr × Bd => (e.1, some e.2)) (F := fun e kv => kv.1 = key2 e.1 ∧ RO K H kv.2 e.2) (Rw.Paired.imp z fun e kv _ y => ⟨y.1, ?_⟩)
  obtain ⟨a, ea, ht⟩ := y.2
  exact .inr ⟨e.2, a, rfl, ea, .inr ht⟩
theorem makes_of {K : PySem.W.Frag} {H : Hp} {a d : Addr} {ns ms : List Str} {m : List (Pr × Bd)} (hd : Drawn ns) (hs : ms.Sublist ns) (h : TxS K H a ms) (hD : DT (RW K) H d m) (hk : ∀ e ∈ m, e.1.1 ∈ spots ms ∧ e.1.2 ∈ spots ms ∧ e.1.1 ≠ e.1.2) (hf : m.length ≤ 1000) : Makes K H a d ms (optM m) :=
  ⟨h, hd.nd.sublist (List.Sublist.cons₂ _ hs), fun x hx => ⟨nameB_menu x (hd.sub x (hs.subset hx)), Nat.le_trans (len_menu x (hd.sub x (hs.subset hx))) (by decide)⟩, fun x hx => strOk_menu x (hd.sub x (hs.subset hx)), Nat.le_trans hs.length_le (Nat.le_trans hd.few (by decide)), hD.opt,
    optM_keys (F := fun p => p.1 ∈ spots ms ∧ p.2 ∈ spots ms ∧ p.1 ≠ p.2) hk, by unfold optM; rw [List.length_map]; exact hf⟩
theorem rtab_same {K : PySem.W.Frag} {C a b : Addr} {H : Hp} {ns : List Str} {m : List (Pr × Bd)} (h1 : Tab K C H a ns m) (h2 : Tab K C H b ns m) : RTab K C a b H :=
  ⟨ns, m, m, h1, h2, rfl, fun e he => look_of h1.1.kn he⟩
theorem dins_same {K : PySem.W.Frag} {C a b : Addr} {H : Hp} {ns : List Str} {m : List (Pr × Bd)} (h1 : Tab K C H a ns m) (h2 : Tab K C H b ns m) : DIns C (RTab K C) (.ref a) (.ref b) H := by
  obtain ⟨_, dx, l, d, e, _⟩ := id h1
  obtain ⟨_, dx', l', d', e', _⟩ := id h2
  exact ⟨a, b, dx, dx', _, _, rfl, rfl, e, e', rtab_same h1 h2⟩
theorem drawn_of {ns : List Str} (h1 : ns.Nodup) (h2 : ∀ x ∈ ns, x ∈ menu) (h3 : ns.length ≤ 7) : Drawn ns :=
  ⟨List.nodup_cons.mpr ⟨fun h => absurd (h2 _ h) (by decide +kernel), h1⟩, h2, h3⟩
theorem same_but {p : Addr} {H0 H H' : Hp} (s : Same H0 H) (h : H0 p = none) (b : But p H H') : Same H0 H' := fun x o e => b x o (s x o e) (ne_of_none e h)
theorem pair_or {k : Nat} {v : V} {a b : Addr} (h : [V.ref a, V.ref b][k]? = some v) : v = .ref a ∨ v = .ref b := by
  match k, h with
  | 0, h => cases h; exact .inl rfl
  | 1, h => cases h; exact .inr rfl
  | k + 2, h => cases h
section
variable {P : Program} {w : World} {K : PySem.W.Frag} {mg : Str → Option Value} {base : Heap}
theorem FnOk.way {CX : CXT} {n : Nat} {f : Addr} {fd : FuncData} {ps : List Str} {sp sp' : Sp} (G : FnOk P w K mg base CX n f fd ps sp) (h : ∀ vs H Q E, sp' vs H Q E → sp vs H Q E) : FnOk P w K mg base CX n f fd ps sp' :=
  ⟨fun vs H Q E z => G.len vs H Q E (h _ _ _ _ z), fun A outer s H args us vs Q E hr e0 hb r z => G.run A outer s H args us vs Q E hr e0 hb r (h _ _ _ _ z)⟩
def WaysV (ns : List Str) (m : List (Pr × Bd)) (v : V) (H : Hp) : Prop := (LawBad (codeM m) (spots ns) ∧ v = .non) ∨ (¬ LawBad (codeM m) (spots ns) ∧ ∃ r, v = .ref r ∧ DT RB H r (wsOf ns m))
def spWays2 (K : PySem.W.Frag) : Sp := fun vs H Q _ => ∃ (d l : Addr) (m : List (Pr × Bd)) (ns : List Str), vs = [.ref d, .ref l] ∧ DT RB H d m ∧ Mk m ∧ SqL K H l ((spots ns).map V.str) ∧ (spots ns).Nodup ∧ (spots ns).length ≤ 5 ∧ ∀ v H', Same H H' → WaysV ns m v H' → Q v H'
theorem ways2 : ∀ (vs : List V) (H : Hp) (Q : VK) (E : XK), spWays2 K vs H Q E → spWays K vs H Q E := by
  rintro vs H Q E ⟨d, l, m, ns, e, hD, hm, hS, hn, hl, q⟩
  exact ⟨d, l, m, spots ns, e, hD, hm, hS, hn, hl, fun hb H' s => q _ _ s (.inl ⟨hb, rfl⟩), fun hb r H' hr s h => q _ _ s (.inr ⟨hb, r, rfl, h⟩)⟩
structure Got (P : Program) (w : World) (K : PySem.W.Frag) (mg : Str → Option Value) (base : Heap) (CX : CXT) (k : Nat) (x : Str) (ps : List Str) (sp : Sp) (f : Addr) (fd : FuncData) : Prop where
  G : FnOk P w K mg base CX k f fd ps sp
  b : Binds K fd ps []
  k : PySem.W.keepIn K (.ref f) = true
  m : mg x = some (.ref f)
end
theorem RB.same {H H' : Hp} {v : V} {b : Bd} (h : RB H v b) (s : Same H H') : RB H' v b := h.mono fun a xs e => s _ _ e
theorem DT.sameB {H H' : Hp} {d : Addr} {m : List (Pr × Bd)} (h : DT RB H d m) (s : Same H H') : DT RB H' d m := h.mono (s d) fun v b z => z.same s
theorem DT.sameW {K : PySem.W.Frag} {H H' : Hp} {d : Addr} {m : List (Pr × Bd)} (h : DT (RW K) H d m) (s : Same H H') : DT (RW K) H' d m := h.mono (s d) fun v b z => z.same s
theorem WaysV.same {ns : List Str} {m : List (Pr × Bd)} {v : V} {H H' : Hp} (h : WaysV ns m v H) (s : Same H H') : WaysV ns m v H' := h.imp id fun ⟨h, r, e, z⟩ => ⟨h, r, e, z.sameB s⟩
theorem own_same {H : Hp} {x dx C : Addr} (hx : H x = none) (hdx : H dx = none) : Same H (upd (upd H dx (.own x)) x (.ins C dx [])) := fun b o e => by
  rw [upd_ne (ne_of_none e hx), upd_ne (ne_of_none e hdx)]
  exact e
theorem ne_tab {K : PySem.W.Frag} {C : Addr} {u x : V} {H : Hp} {Q : VK} (h : (u = .non ∧ x = .non) ∨ DIns C (RTab K C) u x H) (q : ∀ H', Same H H' → Q (.bl false) H') : rNeT C (RTab K C) u x H Q :=
  h.imp (fun ⟨e1, e2⟩ => ⟨e1, e2, q _ (Same.refl _)⟩) fun d => ⟨d, q⟩
theorem Pool.same {H H' : Hp} {p : Addr} {n : Nat} (h : Pool H p n) (s : Same H H') : Pool H' p n := by
  obtain ⟨a, b, c, e, z⟩ := h
  exact ⟨a, b, c, s _ _ e, z⟩
end Rw
set_option Elab.async false
set_option linter.all false
set_option maxRecDepth 100000
set_option maxHeartbeats 2000000
namespace Rw
open PySem L2
/-! ### one bound more -/
theorem tight_comm (x y : Code') : tightC x y = tightC y x := leC_anti (le_tight (tight_r x y) (tight_l x y)) (le_tight (tight_r y x) (tight_l y x))
theorem addC_comm (a b : Int) : addC a b = addC b a := by
  unfold addC
  by_cases h : a % 2 = 1 ∨ b % 2 = 1
  · rw [if_pos h, if_pos (h.symm)]
    omega
  · rw [if_neg h, if_neg fun z => h z.symm]
    omega
theorem sum_comm (x y : Code') : sumC x y = sumC y x := by
  cases x with
  | none => rw [sum_none_r]; rfl
  | some a => cases y with
    | none => rw [sum_none_r]; rfl
    | some b => rw [sum_some, sum_some, addC_comm]
theorem sum_tight (x y z : Code') : sumC x (tightC y z) = tightC (sumC x y) (sumC x z) := by
  refine leC_anti (le_tight (sum_mono (leC_refl _) (tight_l y z)) (sum_mono (leC_refl _) (tight_r y z))) ?_
  rcases tight_or y z with e | e <;> rw [e]
  · exact tight_l _ _
  · exact tight_r _ _
theorem le_of_sum_ge {x y : Code'} (h : leC (some 1) y) : leC x (sumC x y) := by
  have z := sum_mono (leC_refl x) h
  rw [sum_one_r] at z
  exact z
section
variable {c d : Str → Str → Code'} {ss : List Str}
theorem val_mono (h : ∀ x y, leC (d x y) (c x y)) : ∀ (p : List Str), leC (val d p) (val c p)
  | [] => leC_refl _
  | [x] => leC_refl _
  | x :: y :: r => by
    rw [val_cons, val_cons]
    exact sum_mono (h x y) (val_mono h (y :: r))
theorem W_way {a b : Str} {v : Int} (h : W c ss a b = some v) : Way c a b v := by
  obtain ⟨p, h1, h2, _⟩ := way_is c _ _ _ _ _ h
  exact ⟨p, h1, h2⟩
theorem W_le (hE : Edge c ss) (hb : ¬ LawBad c ss) {a b : Str} (hne : a ≠ b) {v : Int} (h : Way c a b v) : leC (W c ss a b) (some v) := by
  obtain ⟨p, h1, h2⟩ := h
  have z := way_small hE (calm_all hE hb ((a :: p).length + 1)) hne h1 (Nat.lt_succ_self _)
  rw [h2] at z
  exact z
theorem bad_way (hE : Edge c ss) {a : Str} {v : Int} (h : Way c a a v) (hv : v < 1) : LawBad c ss := by
  obtain ⟨p, h1, h2⟩ := h
  exact bad_two hE _ a p rfl h1 (by rw [h2]; exact decide_eq_true hv)
theorem bad_is (h : LawBad c ss) : ∃ a v, Way c a a v ∧ v < 1 := by
  obtain ⟨a, b, _, _, _, hb⟩ := h
  cases h1 : W c ss a b with
  | none =>
    rw [h1] at hb
    exact absurd (show badC none = true from hb) (by decide)
  | some v =>
    cases h2 : W c ss b a with
    | none =>
      rw [h1, h2, sum_none_r] at hb
      exact absurd hb (by decide)
    | some u =>
      rw [h1, h2, sum_some] at hb
      exact ⟨a, addC v u, (W_way h1).join (W_way h2), of_decide_eq_true hb⟩
theorem bad_mono (h : ∀ x y, leC (d x y) (c x y)) (hE : Edge d ss) (hb : LawBad c ss) : LawBad d ss := by
  obtain ⟨a, v, ⟨p, h1, h2⟩, hv⟩ := bad_is hb
  have z := val_mono h (a :: p)
  rw [h2] at z
  obtain ⟨u, e, hu⟩ := z v rfl
  exact bad_way hE ⟨p, h1, e⟩ (by omega)
/-- the least ways, 0 from each to itself -/
def WM (c : Str → Str → Code') (ss : List Str) (a b : Str) : Code' := if a = b then some 1 else W c ss a b
theorem WM_way {a b : Str} {v : Int} (h : WM c ss a b = some v) : Way c a b v := by
  unfold WM at h
  by_cases e : a = b
  · rw [if_pos e] at h
    cases h
    subst e
    exact ⟨[], rfl, rfl⟩
  · rw [if_neg e] at h
    exact W_way h
theorem WM_le (hE : Edge c ss) (hb : ¬ LawBad c ss) {a b : Str} {v : Int} (h : Way c a b v) : leC (WM c ss a b) (some v) := by
  unfold WM
  by_cases e : a = b
  · rw [if_pos e]
    subst e
    refine fun u hu => ?_
    cases hu
    by_cases hv : v < 1
    · exact absurd (bad_way hE h hv) hb
    · exact ⟨1, rfl, by omega⟩
  · rw [if_neg e]
    exact W_le hE hb e h
theorem WM_tri (hE : Edge c ss) (hb : ¬ LawBad c ss) (a b e : Str) : leC (WM c ss a e) (sumC (WM c ss a b) (WM c ss b e)) := fun v hv => by
  cases h1 : WM c ss a b with
  | none => rw [h1] at hv; cases hv
  | some x => cases h2 : WM c ss b e with
    | none => rw [h1, h2] at hv; cases hv
    | some y =>
      rw [h1, h2, sum_some] at hv
      cases hv
      exact WM_le hE hb ((WM_way h1).join (WM_way h2)) _ rfl
theorem WM_edge (hE : Edge c ss) (hb : ¬ LawBad c ss) (a b : Str) : leC (WM c ss a b) (c a b) := fun v hv => by
  refine WM_le hE hb ⟨[b], rfl, ?_⟩ _ rfl
  show sumC (c a b) (some 1) = some v
  rw [sum_one_r, hv]
end
/-! the codes with a bound of two more -/
def plusC (c : Str → Str → Code') (o p : Str) (k : Code') : Str → Str → Code' := fun a b => if a = o ∧ b = p then tightC k (c a b) else c a b
section
variable {c : Str → Str → Code'} {ss : List Str} {o p : Str} {k : Code'}
theorem plus_le (x y : Str) : leC (plusC c o p k x y) (c x y) := by
  unfold plusC
  split
  · exact tight_r _ _
  · exact leC_refl _
theorem plus_at : leC (plusC c o p k o p) k := by
  unfold plusC
  rw [if_pos ⟨rfl, rfl⟩]
  exact tight_l _ _
theorem plus_or (x y : Str) : plusC c o p k x y = c x y ∨ (x = o ∧ y = p ∧ plusC c o p k x y = k) := by
  unfold plusC
  split
  · rename_i h
    rcases tight_or k (c x y) with e | e
    · exact .inr ⟨h.1, h.2, e⟩
    · exact .inl e
  · exact .inl rfl
theorem plus_edge (hE : Edge c ss) (ho : o ∈ ss) (hp : p ∈ ss) (hne : o ≠ p) : Edge (plusC c o p k) ss := fun x y v h => by
  rcases plus_or (c := c) (o := o) (p := p) (k := k) x y with e | ⟨rfl, rfl, _⟩
  · rw [e] at h
    exact hE x y v h
  · exact ⟨ho, hp, hne⟩
/-- what the program's grid tells then -/
def plusM (c : Str → Str → Code') (ss : List Str) (o p : Str) (k : Code') (a b : Str) : Code' := tightC (WM c ss a b) (sumC (WM c ss a o) (sumC k (WM c ss p b)))
theorem plusM_step (hE : Edge c ss) (hb : ¬ LawBad c ss) (hr : leC (some 1) (sumC (WM c ss p o) k)) (x y b : Str) : leC (plusM c ss o p k x b) (sumC (plusC c o p k x y) (plusM c ss o p k y b)) := by
  have tri := WM_tri hE hb
  have edge := WM_edge hE hb
  rcases plus_or (c := c) (o := o) (p := p) (k := k) x y with e | ⟨rfl, rfl, e⟩
  · rw [e]
    show leC _ (sumC (c x y) (tightC _ _))
    rw [sum_tight]
    refine le_tight (leC_trans (tight_l _ _) (leC_trans (tri x y b) (sum_mono (edge x y) (leC_refl _)))) (leC_trans (tight_r _ _) ?_)
    rw [← sum_assoc (c x y) (WM c ss y o) (sumC k (WM c ss p b))]
    exact sum_mono (leC_trans (tri x y o) (sum_mono (edge x y) (leC_refl _))) (leC_refl _)
  · rw [e]
    have h0 : leC (plusM c ss x y k x b) (sumC k (WM c ss y b)) := by
      refine leC_trans (tight_r _ _) ?_
      have z : WM c ss x x = some 1 := if_pos rfl
      rw [z, sum_one_l]
      exact leC_refl _
    show leC _ (sumC k (tightC _ _))
    rw [sum_tight]
    refine le_tight h0 (leC_trans h0 ?_)
    rw [← sum_assoc k (WM c ss y x) (sumC k (WM c ss y b))]
    have hr' : leC (some 1) (sumC k (WM c ss y x)) := by rw [sum_comm]; exact hr
    have z := sum_mono hr' (leC_refl (sumC k (WM c ss y b)))
    rw [sum_one_l] at z
    exact z
theorem plusM_path (hE : Edge c ss) (hb : ¬ LawBad c ss) (hr : leC (some 1) (sumC (WM c ss p o) k)) : ∀ (q : List Str) (x b : Str), (x :: q).getLast? = some b → leC (plusM c ss o p k x b) (val (plusC c o p k) (x :: q))
  | [], x, b, h => by
    have e : x = b := Option.some.inj h
    subst e
    refine leC_trans (tight_l _ _) ?_
    have z : WM c ss x x = some 1 := if_pos rfl
    rw [z]
    exact leC_refl _
  | y :: r, x, b, h => by
    have ih := plusM_path hE hb hr r y b (by rw [List.getLast?_cons_cons] at h; exact h)
    rw [val_cons]
    exact leC_trans (plusM_step hE hb hr x y b) (sum_mono (leC_refl _) ih)
theorem plusM_self (hE : Edge c ss) (hb : ¬ LawBad c ss) (hr : leC (some 1) (sumC (WM c ss p o) k)) (a : Str) : leC (some 1) (plusM c ss o p k a a) := by
  refine le_tight ?_ ?_
  · have z : WM c ss a a = some 1 := if_pos rfl
    rw [z]
    exact leC_refl _
  · refine leC_trans hr ?_
    have z := sum_mono (WM_tri hE hb p a o) (leC_refl k)
    rw [sum_assoc] at z
    refine leC_trans z ?_
    rw [sum_comm (WM c ss p a), sum_assoc, sum_comm k]
    exact leC_refl _
/-- no bar: the grid tells the least ways -/
theorem plus_least (hE : Edge c ss) (hb : ¬ LawBad c ss) (ho : o ∈ ss) (hp : p ∈ ss) (hne : o ≠ p) (hr : leC (some 1) (sumC (WM c ss p o) k)) :
    ¬ LawBad (plusC c o p k) ss ∧ ∀ a b, a ≠ b → plusM c ss o p k a b = W (plusC c o p k) ss a b := by
  have hE' := plus_edge (k := k) hE ho hp hne
  have nb : ¬ LawBad (plusC c o p k) ss := fun z => by
    obtain ⟨a, v, ⟨q, h1, h2⟩, hv⟩ := bad_is z
    have z1 := leC_trans (plusM_self hE hb hr a) (plusM_path hE hb hr q a a h1)
    rw [h2] at z1
    obtain ⟨u, e, hu⟩ := z1 v rfl
    cases e
    omega
  refine ⟨nb, fun a b hab => leC_anti ?_ ?_⟩
  · refine fun v hv => ?_
    obtain ⟨q, h1, h2⟩ := W_way hv
    have z := plusM_path hE hb hr q a b h1
    rw [h2] at z
    exact z v rfl
  · have up : ∀ {x y : Str} {v : Int}, WM c ss x y = some v → ∃ u, u ≤ v ∧ Way (plusC c o p k) x y u := fun {x y v} h => by
      obtain ⟨q, h1, h2⟩ := WM_way h
      have z := val_mono (c := c) (d := plusC c o p k) plus_le (x :: q)
      rw [h2] at z
      obtain ⟨u, e, hu⟩ := z _ rfl
      exact ⟨u, hu, q, h1, e⟩
    refine le_tight (fun v hv => ?_) (fun v hv => ?_)
    · obtain ⟨u, hu, w⟩ := up hv
      obtain ⟨t, e, ht⟩ := W_le hE' nb hab w u rfl
      exact ⟨t, e, by omega⟩
    · cases h1 : WM c ss a o with
      | none => rw [h1] at hv; cases hv
      | some x => cases h2 : k with
        | none => rw [h1, h2] at hv; cases hv
        | some kk => cases h3 : WM c ss p b with
          | none => rw [h1, h2, h3] at hv; cases hv
          | some y =>
            rw [h1, h2, h3, sum_some, sum_some] at hv
            cases hv
            obtain ⟨x', hx, w1⟩ := up h1
            obtain ⟨y', hy, w3⟩ := up h3
            have zk := plus_at (c := c) (o := o) (p := p) (k := k)
            rw [h2] at zk
            obtain ⟨k', ek, hk⟩ := zk kk rfl
            have w2 : Way (plusC c o p (some kk)) o p k' := ⟨[p], rfl, by show sumC _ (some 1) = _; rw [sum_one_r]; exact ek⟩
            rw [h2] at w1 w3 hE' nb
            obtain ⟨t, e, ht⟩ := W_le hE' nb hab (w1.join (w2.join w3)) _ rfl
            exact ⟨t, e, Int.le_trans ht (addC_mono hx (addC_mono hk hy))⟩
/-- a bar: no point -/
theorem plus_bad (hE : Edge c ss) (ho : o ∈ ss) (hp : p ∈ ss) (hne : o ≠ p) (hr : badC (sumC (WM c ss p o) k) = true) : LawBad (plusC c o p k) ss := by
  have hE' := plus_edge (k := k) hE ho hp hne
  cases h1 : WM c ss p o with
  | none => rw [h1] at hr; exact absurd (show badC none = true from hr) (by decide)
  | some x => cases h2 : k with
    | none => rw [h1, h2] at hr; exact absurd (show badC none = true from hr) (by decide)
    | some kk =>
      rw [h1, h2, sum_some] at hr
      have hr : addC x kk < 1 := of_decide_eq_true hr
      obtain ⟨q, e1, e2⟩ := WM_way h1
      have z := val_mono (c := c) (d := plusC c o p k) plus_le (p :: q)
      rw [e2] at z
      obtain ⟨u, eu, hu⟩ := z _ rfl
      have zk := plus_at (c := c) (o := o) (p := p) (k := k)
      rw [h2] at zk
      obtain ⟨k', ek, hk⟩ := zk kk rfl
      rw [h2] at hE' eu
      have w2 : Way (plusC c o p (some kk)) o p k' := ⟨[p], rfl, by show sumC _ (some 1) = _; rw [sum_one_r]; exact ek⟩
      have w1 : Way (plusC c o p (some kk)) p o u := ⟨q, e1, eu⟩
      exact bad_way hE' (w1.join w2) (Int.lt_of_le_of_lt (addC_mono hu hk) hr)
end
end Rw
set_option Elab.async false
set_option linter.all false
set_option maxRecDepth 100000
set_option maxHeartbeats 8000000
namespace Rw
open PySem L2
abbrev sTBound : Stmt := inClass (top 24) 2
abbrev sEmInit : Stmt := inClass (top 22) 0
abbrev sNNInit : Stmt := inClass (top 19) 0
abbrev sSNInit : Stmt := inClass (top 20) 0
abbrev sName : Str := "name"
/-! ### errors that keep one thing -/
theorem same_raise {H : Hp} {a dx : Addr} {o1 o2 o3 o4 : HO} (ha : H a = none) (hdx : H dx = none) : Same H (upd (del (upd (upd (upd H a o1) dx o2) a o3) a) dx o4) := fun x o e => by
  have nd : x ≠ dx := ne_of_none e hdx
  have na : x ≠ a := ne_of_none e ha
  rw [upd_ne nd, del_ne na, upd_ne na, upd_ne nd, upd_ne na]
  exact e
/-- a class of such errors: its name, what it keeps -/
structure ErrN (K : PySem.W.Frag) (mg : Str → Option Value) (x fld : Str) (CE fI : Addr) : Prop where
  T : OexC K CE
  noN : PySem.W.findIn K (.ref CE) fld = some none
  iC : PySem.W.findIn K (.ref CE) "__init__" = some (some (.ref fI))
  tI : PySem.W.typeIn K (.ref fI) = some (.type "function")
  gC : mg x = some (.ref CE)
section
variable {P : Program} {w : World} {K : PySem.W.Frag} {mg : Str → Option Value} {base : Heap}
def spErrInit (CE : Addr) (fld : Str) : Sp := fun vs H Q _ => ∃ (a : Addr) (v : V), vs = [.ref a, v] ∧ H a = some (exo a CE none) ∧ ∀ dx, H dx = none → dx ≠ a → Q .non (upd (upd H dx (exd dx [(fld, v)])) a (exo a CE (some dx)))
theorem scEmInit : FnScope ["self", "ring"] ["self", "ring"] (defScope sEmInit) := ⟨rfl, rfl, rfl, by decide +kernel, rfl, by decide +kernel, by decide +kernel⟩
theorem scNNInit : FnScope ["self", "name"] ["self", "name"] (defScope sNNInit) := ⟨rfl, rfl, rfl, by decide +kernel, rfl, by decide +kernel, by decide +kernel⟩
theorem scSNInit : FnScope ["self", "name"] ["self", "name"] (defScope sSNInit) := ⟨rfl, rfl, rfl, by decide +kernel, rfl, by decide +kernel, by decide +kernel⟩
theorem ok_eminit {f CE : Addr} {fd : FuncData} (F : Fun K "__init__" "Empty.__init__" sEmInit f fd) (T : OexC K CE) (hno : PySem.W.findIn K (.ref CE) "ring" = some none) : FnOk P w K mg base CX0 1 f fd ["self", "ring"] (spErrInit CE "ring") := by
  refine F.ok scEmInit (fun vs H Q E h => ?_) (fun cdv A outer s H vs Q E hr h => ?_)
  · obtain ⟨a, v, rfl, _⟩ := h
    rfl
  obtain ⟨a, v, rfl, ha, q⟩ := h
  refine ⟨_, pss_one (ps_ost (pv 0) (pv 1)), ?_⟩
  exact ⟨_, rfl, _, rfl, a, CE, rfl, T, hno, .inl ⟨ha, fun dx hdx hne => q dx hdx hne⟩⟩
theorem ok_nninit {f CE : Addr} {fd : FuncData} (F : Fun K "__init__" "NoName.__init__" sNNInit f fd) (T : OexC K CE) (hno : PySem.W.findIn K (.ref CE) "name" = some none) : FnOk P w K mg base CX0 1 f fd ["self", "name"] (spErrInit CE "name") := by
  refine F.ok scNNInit (fun vs H Q E h => ?_) (fun cdv A outer s H vs Q E hr h => ?_)
  · obtain ⟨a, v, rfl, _⟩ := h
    rfl
  obtain ⟨a, v, rfl, ha, q⟩ := h
  refine ⟨_, pss_one (ps_ost (pv 0) (pv 1)), ?_⟩
  exact ⟨_, rfl, _, rfl, a, CE, rfl, T, hno, .inl ⟨ha, fun dx hdx hne => q dx hdx hne⟩⟩
theorem ok_sninit {f CE : Addr} {fd : FuncData} (F : Fun K "__init__" "SameName.__init__" sSNInit f fd) (T : OexC K CE) (hno : PySem.W.findIn K (.ref CE) "name" = some none) : FnOk P w K mg base CX0 1 f fd ["self", "name"] (spErrInit CE "name") := by
  refine F.ok scSNInit (fun vs H Q E h => ?_) (fun cdv A outer s H vs Q E hr h => ?_)
  · obtain ⟨a, v, rfl, _⟩ := h
    rfl
  obtain ⟨a, v, rfl, ha, q⟩ := h
  refine ⟨_, pss_one (ps_ost (pv 0) (pv 1)), ?_⟩
  exact ⟨_, rfl, _, rfl, a, CE, rfl, T, hno, .inl ⟨ha, fun dx hdx hne => q dx hdx hne⟩⟩
/-- a spot, whatever is asked -/
def SpotV (K : PySem.W.Frag) (H : Hp) (ns : List Str) (v : V) (b : Bool) : Prop := (∃ z, v = .str z ∧ b = decide (z ∈ spots ns)) ∨ ∃ n, Ty K H v n ∧ n ≠ "str" ∧ b = false
def spIsSpot2 (K : PySem.W.Frag) : Sp := fun vs H Q _ => ∃ (l : Addr) (ns : List Str) (v : V) (b : Bool), vs = [.ref l, v] ∧ SqL K H l (ns.map V.str) ∧ SpotV K H ns v b ∧ Q (.bl b) H
theorem ok_is_spot2 {f : Addr} {fd : FuncData} (F : Fun K "is_spot" "is_spot" sIsSpot f fd) (mi : mg "isinstance" = none) (m1 : mg "str" = none) : FnOk P w K mg base CX0 1 f fd ["names", "thing"] (spIsSpot2 K) := by
  refine F.ok scIsSpot (fun vs H Q E h => ?_) (fun cdv A outer s H vs Q E hr h => ?_)
  · obtain ⟨l, ns, v, b, rfl, _⟩ := h
    rfl
  obtain ⟨l, ns, v, b, rfl, hS, hv, q⟩ := h
  refine ⟨_, pss_one (ps_ret (pe_and (pe_callB call_isi rfl mi (by decide +kernel) (pa_cons (pv 1) (pa_cons (pe_bltn (v := .ty "str") rfl m1 (by decide +kernel) rfl) pa_nil)))
    (pe_one (pe_or (pe_cmpR op_eq (pv 1) pe_str (nomark _)) (pe_one (pe_cmpR op_in_seq (pv 1) (pv 0) rfl)))))), ?_⟩
  rcases hv with ⟨z, rfl, rfl⟩ | ⟨n, hT, hn, rfl⟩
  · have k1 : PySem.W.kitOne K (.type "str") (.type "str") = some true := kit_ty (by decide +kernel)
    refine ⟨_, rfl, .str z, .ty "str", _, _, true, rfl, ClsV.ty "str", .base (.str z), k1, true, rfl, ?_⟩
    refine (if_pos rfl).mpr ?_
    refine ⟨_, rfl, rfl, _, rfl, ?_⟩
    refine ite2 (fun c => ?_) (fun c => ?_)
    · have e : z = "" := by
        have z1 := of_decide_eq_true c
        injection z1
      subst e
      have y : decide (("" : Str) ∈ spots ns) = true := decide_eq_true List.mem_cons_self
      rw [y] at q
      exact q
    · have e : ¬ z = "" := fun e => c (decide_eq_true (by rw [e]))
      refine ⟨_, rfl, _, rfl, l, _, rfl, .inl hS, rfl, flat_strs, ?_⟩
      rw [if_neg Bool.false_ne_true, inV_str]
      have y : decide (z ∈ spots ns) = decide (z ∈ ns) := by
        rw [Bool.eq_iff_iff]
        simp only [decide_eq_true_eq, List.mem_cons]
        exact ⟨fun h => h.resolve_left e, .inr⟩
      rw [y] at q
      exact q
  · have k1 : PySem.W.kitOne K (.type n) (.type "str") = some false := by
      rw [kit_one hT.m (.inr (.inr (.inl rfl)))]
      have e1 : (n == "str") = false := beq_eq_false_iff_ne.mpr hn
      rw [e1]
      have e2 : ((n == "bool" && ("str" : String) == "int") : Bool) = false := by
        rw [Bool.and_eq_false_iff]
        exact .inr (by decide)
      rw [e2]
      rfl
    refine ⟨_, rfl, v, .ty "str", _, _, false, rfl, ClsV.ty "str", hT.h, k1, false, rfl, ?_⟩
    exact (if_neg Bool.false_ne_true).mpr q
/-- what bound asks ahead: two spots, unlike; else the error -/
inductive TwoS (K : PySem.W.Frag) (H : Hp) (ns : List Str) (CN CS : Addr) : V → V → Option (Addr × Str × V) → Prop where
  | good (a b : Str) (ha : a ∈ spots ns) (hb : b ∈ spots ns) (hne : a ≠ b) : TwoS K H ns CN CS (.str a) (.str b) none
  | one (x y : V) (h : SpotV K H ns x false) : TwoS K H ns CN CS x y (some (CN, sName, x))
  | two (x y : V) (h : SpotV K H ns x true) (g : SpotV K H ns y false) : TwoS K H ns CN CS x y (some (CN, sName, y))
  | same (a : Str) (ha : a ∈ spots ns) : TwoS K H ns CN CS (.str a) (.str a) (some (CS, sName, .str a))
theorem SpotV.same {K : PySem.W.Frag} {H H' : Hp} {ns : List Str} {v : V} {b : Bool} (h : SpotV K H ns v b) (s : Same H H') : SpotV K H' ns v b := h.imp id fun ⟨n, t, e⟩ => ⟨n, t.same s, e⟩
theorem two_first {H : Hp} {ns : List Str} {CN CS : Addr} {x y : V} {r : Option (Addr × Str × V)} (h : TwoS K H ns CN CS x y r) : ∃ b c : Bool, SpotV K H ns x b ∧ (b = false → r = some (CN, sName, x)) ∧ (b = true → SpotV K H ns y c ∧ (c = false → r = some (CN, sName, y)) ∧
    (c = true → ∃ a b, x = .str a ∧ y = .str b ∧ ((a ≠ b ∧ r = none) ∨ (a = b ∧ r = some (CS, sName, x))))) := by
  have st : ∀ a : Str, a ∈ spots ns → SpotV K H ns (.str a) true := fun a ha => .inl ⟨a, rfl, (decide_eq_true ha).symm⟩
  cases h with
  | good a b ha hb hne => exact ⟨true, true, st a ha, (fun z => nomatch z), fun _ => ⟨st b hb, (fun z => nomatch z), fun _ => ⟨a, b, rfl, rfl, .inl ⟨hne, rfl⟩⟩⟩⟩
  | one _ _ h => exact ⟨false, false, h, (fun _ => rfl), fun z => nomatch z⟩
  | two _ _ h g => exact ⟨true, false, h, (fun z => nomatch z), fun _ => ⟨g, (fun _ => rfl), fun z => nomatch z⟩⟩
  | same a ha => exact ⟨true, true, st a ha, (fun z => nomatch z), fun _ => ⟨st a ha, (fun z => nomatch z), fun _ => ⟨a, a, rfl, rfl, .inr ⟨rfl, rfl⟩⟩⟩⟩
/-- nothing wrong, or the error with what it keeps -/
def spTBound (K : PySem.W.Frag) (C CN CS : Addr) : Sp := fun vs H Q E => ∃ (p : Addr) (x y : V) (ns : List Str) (m : List (Pr × Bd)) (r : Option (Addr × Str × V)), vs = [.ref p, x, y] ∧ Tab K C H p ns m ∧ TwoS K H ns CN CS x y r ∧ (r = none → ∀ v H', Same H H' → Q v H') ∧
  ∀ e, r = some e → ∀ d H', Same H H' → H d = none → H' d = some (.xd [(e.2.1, e.2.2)]) → E (.ref e.1) (some d) H'
def nTBound : List Str := ["self", "one", "other", "name"]
theorem scTBound : FnScope nTBound ["self", "one", "other"] (defScope sTBound) := ⟨rfl, rfl, rfl, by decide +kernel, rfl, by decide +kernel, by decide +kernel⟩
theorem ok_tbound {f fs fN fS C CN CS : Addr} {fd fds fdN fdS : FuncData} (F : Fun K "bound" "Table.bound" sTBound f fd) (T : TxtT K mg C) (EN : ErrN K mg "NoName" "name" CN fN) (ES : ErrN K mg "SameName" "name" CS fS)
    (GS : FnOk P w K mg base CX0 1 fs fds ["names", "thing"] (spIsSpot2 K)) (bS : Binds K fds ["names", "thing"] []) (kS : PySem.W.keepIn K (.ref fs) = true) (mS : mg "is_spot" = some (.ref fs))
    (GN : FnOk P w K mg base CX0 1 fN fdN ["self", "name"] (spErrInit CN "name")) (bN : Binds K fdN ["self", "name"] []) (GE : FnOk P w K mg base CX0 1 fS fdS ["self", "name"] (spErrInit CS "name")) (bE : Binds K fdS ["self", "name"] []) :
    FnOk P w K mg base (L2.CX P w) 3 f fd ["self", "one", "other"] (spTBound K C CN CS) := by
  refine F.okX scTBound (fun vs H Q E h => ?_) (fun cdv A outer s H vs Q E hr h => ?_)
  · obtain ⟨p, x, y, ns, m, r, rfl, _⟩ := h
    rfl
  obtain ⟨p, x, y, ns, m, r, rfl, hT, hc, q0, q1⟩ := h
  have hu := hu_of hr
  refine ⟨_, pss_cons (ps_for (passes_of rfl) rfl (pi_tup (pe_tup (pa_cons (pv 1) (pa_cons (pv 2) pa_nil)))) (pg_name (i := 3) scTBound.nd rfl (Or.inl rfl))
      (pss_one (ps_if (pt_not (pt_val (pe_call GS (hr.mono (by decide)) rfl mS kS bS .nil pass0 (pa_cons (pe_fld (pv 0) rfl) (pa_cons (pv 3) pa_nil)))))
        (pss_one (ps_raise rfl (takes_of rfl rfl rfl rfl) (pmk_oex EN.T EN.iC EN.tI GN (hr.mono (by decide)) bN .nil pass0 rfl EN.gC (pa_cons (pv 3) pa_nil)))) pss_nil)))
    (pss_cons (ps_if (pt_cmpR op_eq (pv 1) (pv 2) (nomark _)) (pss_one (ps_raise rfl (takes_of rfl rfl rfl rfl) (pmk_oex ES.T ES.iC ES.tI GE (hr.mono (by decide)) bE .nil pass0 rfl ES.gC (pa_cons (pv 1) pa_nil)))) pss_nil)
    (pss_one (ps_ret (pe_dget1 hu (pe_fld (pv 0) rfl) (pe_tup (pa_cons (pv 1) (pa_cons (pv 2) pa_nil))) ⟨rfl, rfl, rfl, rfl⟩)))), ?_⟩
  obtain ⟨ok, dx, l, d, hp, hl, hd⟩ := id hT
  -- an error with what it keeps
  have err : ∀ (e : Addr × Str × V), r = some e → ∀ (H1 : Hp) (a dx' : Addr) (o1 o2 o3 : HO), Same H H1 → H1 a = none → (upd H1 a o1) dx' = none → dx' ≠ a → E (.ref e.1) (some dx') (upd (del (upd (upd (upd H1 a o1) dx' o2) a o3) a) dx' (.xd [(e.2.1, e.2.2)])) := fun e he H1 a dx' o1 o2 o3 s1 ha hdx hne => by
    have hd1 : H1 dx' = none := by
      rw [upd_ne hne] at hdx
      exact hdx
    exact q1 e he dx' _ (s1.trans (same_raise ha hd1)) (s1.free hd1) upd_same
  obtain ⟨bx, by', hx, hxf, hy⟩ := two_first hc
  refine ⟨_, rfl, _, rfl, (by show 2 ≤ sizeLine; decide), fun tp htp => ⟨tp, rfl, ⟨_, SqT.of upd_same⟩, for_tup (xs := [x, y]) (fun i σ' H' => ∃ u : Option V, σ' = [some (.ref p), some x, some y, u] ∧ Same (upd H tp (.tup [x, y])) H' ∧ (0 < i → bx = true) ∧ (1 < i → by' = true)) ?_ ?_ ?_ ?_⟩⟩
  · exact ⟨none, rfl, Same.refl _, (fun z => absurd z (by decide)), fun z => absurd z (by decide)⟩
  · rintro i σ' H' _ ⟨u, rfl, s1, _⟩
    exact SqT.of (s1 _ _ upd_same)
  · rintro i z σ' H' hz ⟨u, rfl, s1, h1, h2⟩
    have s01 := (same_new htp (.tup [x, y])).trans s1
    have key : ∃ b, SpotV K H ns z b ∧ (b = false → r = some (CN, sName, z)) ∧ (b = true → (0 < i + 1 → bx = true) ∧ (1 < i + 1 → by' = true)) := by
      match i, hz with
      | 0, hz =>
        cases hz
        exact ⟨bx, hx, hxf, fun e => ⟨fun _ => e, fun z => absurd z (by decide)⟩⟩
      | 1, hz =>
        cases hz
        have e := h1 (by decide)
        exact ⟨by', (hy e).1, (hy e).2.1, fun e2 => ⟨fun _ => e, fun _ => e2⟩⟩
      | i + 2, hz => cases hz
    obtain ⟨b, hb, hf, ht⟩ := key
    refine ⟨_, rfl, p, C, dx, _, _, rfl, s01 _ _ hp, T.cl, T.nN, tf_names, _, rfl, l, ns, z, b, rfl, SqL.of (s01 _ _ hl), hb.same s01, b, rfl, ?_⟩
    cases b with
    | true => exact (if_neg (by decide)).mpr ⟨some z, rfl, s1, (ht rfl).1, (ht rfl).2⟩
    | false =>
      refine (if_pos rfl).mpr ⟨_, rfl, (by show 1 ≤ 1000; decide), fun a ha => ?_⟩
      refine ⟨a, z, rfl, upd_same, fun dx' hdx hne => ⟨rfl, dx', [(("name" : Str), z)], upd_same, ?_, ?_, ?_⟩⟩
      · rw [upd_ne hne, upd_same]
      · rw [upd_ne hne] at hdx
        exact hdx
      · exact err _ (hf rfl) _ _ _ _ _ _ s01 ha hdx hne
  · rintro σ' H1 ⟨u, rfl, s1, h1, h2⟩
    have s01 := (same_new htp (.tup [x, y])).trans s1
    obtain ⟨_, _, h3⟩ := hy (h1 (by show 0 < 2; decide))
    obtain ⟨a, b, rfl, rfl, h4⟩ := h3 (h2 (by show 1 < 2; decide))
    refine ⟨_, rfl, _, rfl, rfl, _, rfl, ?_⟩
    rcases h4 with ⟨hab, e⟩ | ⟨rfl, e⟩
    · refine (if_neg (by rw [decide_eq_false (fun z => hab (by injection z))]; decide)).mpr ?_
      obtain ⟨kvs, hkd, hpr⟩ := id hd
      refine ⟨_, rfl, p, C, dx, _, _, rfl, s01 _ _ hp, T.cl, T.nB, tf_bounds, d, rfl, .inr ⟨kvs, .inl (s01 _ _ hkd)⟩, _, rfl, _, rfl, (by show 2 ≤ sizeLine; decide), fun q2 hq2 => ?_⟩
      have s2 := s01.trans (same_new hq2 (.tup [.str a, .str b]))
      obtain ⟨o, ho, _⟩ := (hd.mono (s2 d) fun v x z => z.same s2).get (show IsPr _ q2 (a, b) from upd_same)
      exact ⟨o, ho, q0 e _ _ s2⟩
    · refine (if_pos (decide_eq_true rfl)).mpr ⟨_, rfl, (by show 1 ≤ 1000; decide), fun c ha => ?_⟩
      refine ⟨c, .str a, rfl, upd_same, fun dx' hdx hne => ⟨rfl, dx', [(("name" : Str), .str a)], upd_same, ?_, ?_, ?_⟩⟩
      · rw [upd_ne hne, upd_same]
      · rw [upd_ne hne] at hdx
        exact hdx
      · exact err _ e _ _ _ _ _ _ s01 ha hdx hne
end
end Rw
set_option Elab.async false
set_option linter.all false
set_option maxRecDepth 100000
set_option maxHeartbeats 8000000
namespace Rw
open PySem L2
abbrev sAlikeN : Stmt := top 29
/-! ### an own error without more, raised without arguments -/
open PyProof.Rows in
theorem pmk_own0 {X : Cx} {C : Addr} {bmB : List Value} {B newId initId : String} {x : Str} {p pos : Pos} (F : ExcBaseFacts B newId initId bmB) (q : PySem.W.excIn X.K C bmB newId = true) (gC : X.mg x = some (.ref C))
    (kC : PySem.W.keepIn X.K (.ref C) = true) (r : Raises X (.ref C)) (hg : Gl X x) (hdb : (x == ("__debug__" : Str)) = false := by decide) :
    PMk X (.Call (.Name x p) [] [] pos) (fun σ H Q => Q (.ref C) none H) := by
  intro pins s σ H Q I h
  refine wpAny_Call_Name_kw (ld_glob I hg gC ?_ hdb)
  refine PySem.W.callWith_K0 I.kIn kC ?_
  show wpAny _ _ (call (.ref C) []) _ _ _
  obtain ⟨bm, N, nm, qn, bs, hdct, sn, sub, ab, col, dd, k0, k1, k2, k3, k5, mN, hC, hN, hni, T⟩ := exc_obj I.kIn q
  refine wpAny_call_exc_subT F T hC hN hni (fun h' e hm => ?_) (Nat.zero_le _)
  exact mk_of I hm r h (I.hok.gone hm.new)
section
variable {P : Program} {w : World} {K : PySem.W.Frag} {mg : Str → Option Value} {base : Heap}
/-! ### names alike -/
theorem strs_lay {ns : List Str} (h : ∀ x ∈ ns, PyData.strOk x = true) : PyData.canLayAll0 (ns.map PyData.str) = true := by
  induction ns with
  | nil => rfl
  | cons x ns ih =>
    rw [List.map_cons]
    show (PyData.canLay0 (.str x) && PyData.canLayAll0 (ns.map PyData.str)) = true
    rw [ih fun y hy => h y (List.mem_cons_of_mem _ hy)]
    have e : PyData.canLay0 (.str x) = PyData.strOk x := by simp [PyData.canLay0]
    rw [e, h x List.mem_cons_self]
    rfl
theorem strs_depth {ns : List Str} : PyData.depthAll (ns.map PyData.str) = 0 := by
  induction ns with
  | nil => rfl
  | cons x ns ih =>
    rw [List.map_cons]
    simp [PyData.depthAll, PyData.depth, ih]
theorem strs_shaped {ns : List Str} (h : ∀ x ∈ ns, PyData.strOk x = true) : SeqAt.shaped (.list (ns.map PyData.str)) = true := by
  unfold SeqAt.shaped
  have e1 : PyData.canLay0 (.list (ns.map PyData.str)) = true := by
    simp only [PyData.canLay0]
    exact strs_lay h
  have e2 : PyData.depth (.list (ns.map PyData.str)) = 1 := by simp [PyData.depth, strs_depth]
  rw [e1, e2]
  rfl
theorem strs_eqv : ∀ {ns ms : List Str}, PyData.eqvAll (ns.map PyData.str) (ms.map PyData.str) = decide (ns = ms)
  | [], [] => rfl
  | [], _ :: _ => rfl
  | _ :: _, [] => rfl
  | x :: ns, y :: ms => by
    have ih := strs_eqv (ns := ns) (ms := ms)
    rw [List.map_cons, List.map_cons]
    simp only [PyData.eqvAll, PyData.eqv, ih]
    rw [Bool.eq_iff_iff]
    simp only [Bool.and_eq_true, decide_eq_true_eq, beq_iff_eq, List.cons.injEq]
def spAlikeN (K : PySem.W.Frag) (C CU : Addr) : Sp := fun vs H Q E => ∃ (p p2 : Addr) (ns ns2 : List Str) (m m2 : List (Pr × Bd)), vs = [.ref p, .ref p2] ∧ Tab K C H p ns m ∧ Tab K C H p2 ns2 m2 ∧ (ns = ns2 → ∀ H', Same H H' → Q .non H') ∧ (ns ≠ ns2 → ∀ H', Same H H' → E (.ref CU) none H')
theorem scAlikeN : FnScope ["one", "other"] ["one", "other"] (defScope sAlikeN) := ⟨rfl, rfl, rfl, by decide +kernel, rfl, by decide +kernel, by decide +kernel⟩
/-- a class of errors that keep nothing -/
structure ErrU (K : PySem.W.Frag) (mg : Str → Option Value) (x : Str) (CU : Addr) : Prop where
  gC : mg x = some (.ref CU)
  ex : PySem.W.excIn K CU [.type "ValueError", .type "Exception", .type "BaseException", .type "object"] "ValueError.__new__" = true
  kC : PySem.W.keepIn K (.ref CU) = true
  sB : PySem.W.subIn K (.ref CU) (.type "BaseException") = some true
  tC : PySem.W.typeIn K (.ref CU) = some (.type "type")
theorem ok_alikeN {f fn C CU : Addr} {fd fdn : FuncData} (F : Fun K "check_alike_names" "check_alike_names" sAlikeN f fd) (T : TxtT K mg C) (EU : ErrU K mg "UnlikeNames" CU) (GN : FnOk P w K mg base CX0 1 fn fdn ["self"] (spTNames K C)) (bN : Binds K fdn ["self"] []) (hN : Meth K C "names" fn) :
    FnOk P w K mg base (L2.CX P w) 2 f fd ["one", "other"] (spAlikeN K C CU) := by
  refine F.okX scAlikeN (fun vs H Q E h => ?_) (fun cdv A outer s H vs Q E hr h => ?_)
  · obtain ⟨p, p2, ns, ns2, m, m2, rfl, _⟩ := h
    rfl
  obtain ⟨p, p2, ns, ns2, m, m2, rfl, hT, hT2, q0, q1⟩ := h
  refine ⟨_, pss_one (ps_if (pt_cmpR (op_neD hr.units) (pe_meth0 (pv 0) T.cl hN GN hr bN .nil pass0) (pe_meth0 (pv 1) T.cl hN GN hr bN .nil pass0) (nomark _))
    (pss_one (ps_raise rfl (takes_of rfl rfl rfl rfl) (pmk_own0 PySem.F.excBase_ValueError EU.ex EU.gC EU.kC (raises_own EU.sB EU.tC) rfl))) pss_nil), ?_⟩
  obtain ⟨ok, dx, l, d, hp, hl, hd⟩ := id hT
  obtain ⟨ok2, dx2, l2, d2, hp2, hl2, hd2⟩ := id hT2
  have nm : ∀ l d : Addr, (tf l d).lookup ("names" : Str) = none := fun l d => tf_no (by decide +kernel) (by decide +kernel)
  refine ⟨_, rfl, p, dx, _, rfl, hp, nm _ _, p, ns, m, rfl, hT, fun a ha => ?_⟩
  have s1 := same_new ha (.lst (ns.map V.str))
  refine ⟨_, rfl, p2, dx2, _, rfl, s1 _ _ hp2, nm _ _, p2, ns2, m2, rfl, hT2.same s1, fun b hb => ?_⟩
  have s2 := same_new hb (.lst (ns2.map V.str))
  refine ⟨.list (ns.map PyData.str), .list (ns2.map PyData.str), .lst (SqL.of (s2 _ _ upd_same)) (dp_strs _), .lst (SqL.of upd_same) (dp_strs _), strs_shaped ok.sok, strs_shaped ok2.sok, _, rfl, ?_⟩
  have e : PyData.eqv (.list (ns.map PyData.str)) (.list (ns2.map PyData.str)) = decide (ns = ns2) := by
    rw [PyData.eqv]
    exact strs_eqv
  rw [e]
  by_cases c : ns = ns2
  · rw [decide_eq_true c]
    exact (if_neg (by decide)).mpr (q0 c _ (s1.trans s2))
  · rw [decide_eq_false c]
    exact (if_pos rfl).mpr (q1 c _ (s1.trans s2))
end
end Rw
set_option Elab.async false
set_option linter.all false
set_option maxRecDepth 100000
set_option maxHeartbeats 4000000
namespace Rw
open PySem L2
abbrev sAsTight : Stmt := top 42
abbrev sWithin : Stmt := top 41
abbrev sAlike : Stmt := top 40
theorem yes_ {σ : L2.St} {H : Hp} {A B : Hp → Prop} (h : A H) : tYes σ H (fun b H3 => if b = true then A H3 else B H3) := show (if true = true then A H else B H) from (if_pos rfl).mpr h
def asC (x y : Code') : Bool := match y with
  | none => true
  | some b => match x with
    | none => false
    | some a => decide (a ≤ b)
theorem asC_iff {x y : Code'} : asC x y = true ↔ leC x y := by
  cases y with
  | none => exact ⟨fun _ => leC_none x, fun _ => rfl⟩
  | some b =>
    cases x with
    | none => exact ⟨(fun h => nomatch h), fun h => by obtain ⟨a, e, _⟩ := h b rfl; cases e⟩
    | some a => exact ⟨fun h c e => by cases e; exact ⟨a, rfl, of_decide_eq_true h⟩, fun h => by obtain ⟨a', e, l⟩ := h b rfl; cases e; exact decide_eq_true l⟩
def prsN (m i : Nat) : List (Nat × Nat) := (List.range i).flatMap fun a => (List.range m).map fun b => (a, b)
theorem prsN_succ {m i : Nat} : prsN m (i + 1) = prsN m i ++ (List.range m).map fun b => (i, b) := by
  unfold prsN
  rw [List.range_succ, List.flatMap_append, List.flatMap_cons, List.flatMap_nil, List.append_nil]
theorem prsN_len {m : Nat} : ∀ {i : Nat}, (prsN m i).length = i * m
  | 0 => by rw [Nat.zero_mul]; rfl
  | i + 1 => by rw [prsN_succ, List.length_append, prsN_len, List.length_map, List.length_range, Nat.succ_mul]
theorem mem_prsN {m i : Nat} {e : Nat × Nat} : e ∈ prsN m i ↔ e.1 < i ∧ e.2 < m := by
  unfold prsN
  rw [List.mem_flatMap]
  constructor
  · rintro ⟨a, ha, h⟩
    obtain ⟨b, hb, rfl⟩ := List.mem_map.mp h
    exact ⟨List.mem_range.mp ha, List.mem_range.mp hb⟩
  · rintro ⟨h1, h2⟩
    exact ⟨e.1, List.mem_range.mpr h1, List.mem_map.mpr ⟨e.2, List.mem_range.mpr h2, rfl⟩⟩
section
variable {P : Program} {w : World} {K : PySem.W.Frag} {mg : Str → Option Value} {base : Heap}
def spAsTight : Sp := fun vs H Q _ => ∃ x y : Code', vs = [cv x, cv y] ∧ Q (.bl (asC x y)) H
theorem scAsTight : FnScope ["one", "other"] ["one", "other"] (defScope sAsTight) := ⟨rfl, rfl, rfl, by decide +kernel, rfl, by decide +kernel, by decide +kernel⟩
theorem ok_as_tight {f : Addr} {fd : FuncData} (F : Fun K "is_as_tight" "is_as_tight" sAsTight f fd) : FnOk P w K mg base CX0 1 f fd ["one", "other"] spAsTight := by
  refine F.ok scAsTight (fun vs H Q E h => ?_) (fun cdv A outer s H vs Q E hr h => ?_)
  · obtain ⟨x, y, rfl, _⟩ := h
    rfl
  obtain ⟨x, y, rfl, q⟩ := h
  refine ⟨_, pss_one (ps_ret (pe_or (pe_cmpR op_isN (pv 1) pe_non (nomark _)) (pe_one (pe_and (pe_cmpR op_notN (pv 0) pe_non (nomark _)) (pe_one (pe_cmpR op_le (pv 0) (pv 1) (nomark _))))))), ?_⟩
  cases y with
  | none => exact ⟨_, rfl, rfl, true, rfl, (if_pos rfl).mpr q⟩
  | some b =>
    refine ⟨_, rfl, rfl, false, rfl, (if_neg (by decide)).mpr ?_⟩
    cases x with
    | none => exact ⟨_, rfl, rfl, false, rfl, (if_neg (by decide)).mpr q⟩
    | some a => exact ⟨_, rfl, rfl, true, rfl, (if_pos rfl).mpr ⟨_, rfl, _, rfl, _, _, rfl, rfl, q⟩⟩
/-- whether one grid is as tight as another one -/
def allAs (n : Nat) (M G : Mat) : Bool := (prsN n n).all fun e => asC (matAt M e.1 e.2) (matAt G e.1 e.2)
def withinB (ns : List Str) (m m2 : List (Pr × Bd)) : Bool := match shutM (ns.length + 1) (gridM ns m) with
  | none => true
  | some M' => allAs (ns.length + 1) M' (gridM ns m2)
def spWithin (K : PySem.W.Frag) (C CU : Addr) : Sp := fun vs H Q E => ∃ (p p2 : Addr) (ns ns2 : List Str) (m m2 : List (Pr × Bd)), vs = [.ref p, .ref p2] ∧ Tab K C H p ns m ∧ Tab K C H p2 ns2 m2 ∧ (ns = ns2 → ∀ H', Same H H' → Q (.bl (withinB ns m m2)) H') ∧ (ns ≠ ns2 → ∀ H', Same H H' → E (.ref CU) none H')
def nWithin : List Str := ["one", "other", "inner", "outer", "pairs", "i", "j"]
theorem scWithin : FnScope nWithin ["one", "other"] (defScope sWithin) := ⟨rfl, rfl, rfl, by decide +kernel, rfl, by decide +kernel, by decide +kernel⟩
theorem ok_within {f fA fG fg fT C CU : Addr} {fd fdA fdG fdg fdT : FuncData} (F : Fun K "within" "within" sWithin f fd)
    (gA : Got P w K mg base (L2.CX P w) 2 "check_alike_names" ["one", "other"] (spAlikeN K C CU) fA fdA) (gG : Got P w K mg base CX0 3 "closed_grid" ["table"] (spClosed K C) fG fdG) (gg : Got P w K mg base CX0 2 "grid_of" ["table"] (spGridOf K C) fg fdg)
    (gT : Got P w K mg base CX0 1 "is_as_tight" ["one", "other"] spAsTight fT fdT) (ml : mg "len" = none) (mr : mg "range" = none) (ma : mg "all" = none) :
    FnOk P w K mg base (L2.CX P w) 4 f fd ["one", "other"] (spWithin K C CU) := by
  refine F.okX scWithin (fun vs H Q E h => ?_) (fun cdv A outer s H vs Q E hr h => ?_)
  · obtain ⟨p, p2, ns, ns2, m, m2, rfl, _⟩ := h
    rfl
  obtain ⟨p, p2, ns, ns2, m, m2, rfl, hT, hT2, q0, q1⟩ := h
  refine ⟨_, pss_cons (ps_expr (pe_callS gA.G (hr.mono (by decide)) rfl gA.m gA.k gA.b (fun σ => passAt (takes_of rfl rfl rfl rfl) σ) (pa_cons (pv 0) (pa_cons (pv 1) pa_nil))))
    (pss_cons (ps_set (i := 2) scWithin.nd rfl (Or.inr rfl) (pe_call gG.G hr rfl gG.m gG.k gG.b .nil pass0 (pa_cons (pv 0) pa_nil)))
    (pss_cons (ps_if (pt_cmpR op_isN (pv 2) pe_non (nomark _)) (pss_one (ps_ret pe_bl)) pss_nil)
    (pss_cons (ps_set (i := 3) scWithin.nd rfl (Or.inr rfl) (pe_call gg.G (hr.mono (by decide)) rfl gg.m gg.k gg.b .nil pass0 (pa_cons (pv 1) pa_nil)))
    (pss_cons (ps_setLc2 (i := 4) (own := [("i", 5), ("j", 6)]) (vs1 := [6]) (g := gName 5) (g1 := gName 6) (tt := tYes) (tt1 := tYes) (wi1 := iRng1 (tCons (tCB (fun xs H Q => ∃ p ys, xs = [.ref p] ∧ (SqL K H p ys ∨ SqT K H p ys) ∧ Q (.int ys.length) H) (tCons (tVar 2) tNil)) tNil)) (te := tTup (tCons (tVar 5) (tCons (tVar 6) tNil))) rfl scWithin.nd rfl rfl (sw_true rfl rfl rfl rfl)
        (pi_range1 rfl mr (pa_cons (pe_callB call_len_seq rfl ml PySem.boot_len (pa_cons (pv 2) pa_nil)) pa_nil)) (blkOk_by (N := nWithin) (sc := defScope sWithin) (by decide +kernel)) (by decide)
        (fun _ _ _ _ _ => pg_name (i := 5) scWithin.nd rfl (Or.inl rfl)) (fun _ _ _ _ _ => pts_nil) (fun _ _ _ _ _ => pi_range1 rfl mr (pa_cons (pe_callB call_len_seq rfl ml PySem.boot_len (pa_cons (pv 2) pa_nil)) pa_nil))
        (fun _ _ _ _ _ => pg_name (i := 6) scWithin.nd rfl (Or.inl rfl)) (fun _ _ _ _ _ => pts_nil) (fun _ _ _ _ _ => pe_tup (pa_cons (pv 5) (pa_cons (pv 6) pa_nil))))
    (pss_one (ps_ret (pe_callB (cr_all rfl) rfl ma (by decide +kernel) (pa_cons
      (pe_lc (own := [("i", 5), ("j", 6)]) (g := gTup K 2 (gCons (gName 5) (gCons (gName 6) gNil))) (tt := tYes) (te := tCall spAsTight [] E0 (tCons (tOp (rIxL K) (tOp (rIxL K) (tVar 2) (tVar 5)) (tVar 6)) (tCons (tOp (rIxL K) (tOp (rIxL K) (tVar 3) (tVar 5)) (tVar 6)) tNil))) rfl scWithin.nd (pi_list (pv 4)) (blkOk_by (N := nWithin) (sc := defScope sWithin) (by decide +kernel))
        (fun _ _ _ _ _ => pg_tup rfl (pgs_cons (pg_name (i := 5) scWithin.nd rfl (Or.inl rfl)) (pgs_cons (pg_name (i := 6) scWithin.nd rfl (Or.inl rfl)) pgs_nil))) (fun _ _ _ _ _ => pts_nil)
        (fun _ _ _ _ _ => pe_call gT.G (hr.mono (by decide)) rfl gT.m gT.k gT.b .nil pass0 (pa_cons (pe_ix ix_list (pe_ix ix_list (pv 2) (pv 5) (fun _ _ => rfl)) (pv 6) (fun _ _ => rfl)) (pa_cons (pe_ix ix_list (pe_ix ix_list (pv 3) (pv 5) (fun _ _ => rfl)) (pv 6) (fun _ _ => rfl)) pa_nil)))) pa_nil)))))))), ?_⟩
  have ok := hT.1
  have few := ok.few
  have big : ∀ m : Nat, m ≤ 21 → (-(2 ^ 62) : Int) ≤ ((m : Nat) : Int) ∧ ((m : Nat) : Int) < 2 ^ 62 := fun m hm => ⟨by omega, by omega⟩
  have zi : ∀ {i : Nat} {x : V}, x = (fun i : Nat => V.int (0 + (i : Int))) i → x = .int (i : Nat) := fun {i x} e => by
    rw [e]
    show V.int (0 + (i : Int)) = V.int (i : Int)
    rw [Int.zero_add]
  refine ⟨_, rfl, _, rfl, p, p2, ns, ns2, m, m2, rfl, hT, hT2, fun e H1 s1 => ?_, fun e H1 s1 => q1 e H1 s1⟩
  subst e
  have q := q0 rfl
  clear q0 q1
  refine ⟨_, rfl, p, ns, m, rfl, hT.same s1, fun v H2 s2 hv => ?_⟩
  have s12 := s1.trans s2
  rcases hv with ⟨e, rfl⟩ | ⟨g, M', e, rfl, hG, hSq⟩
  · refine ⟨_, rfl, rfl, true, rfl, iteT ?_⟩
    have z := q H2 s12
    unfold withinB at z
    rw [e] at z
    exact z
  refine ⟨_, rfl, rfl, false, rfl, (if_neg (by decide)).mpr ?_⟩
  refine ⟨_, rfl, p2, ns, m2, rfl, hT2.same s12, fun g2 H3 s3 hg2 hG2 => ?_⟩
  have hGs := hG.same s3
  have q' : ∀ H', Same H3 H' → Q (.bl (allAs (ns.length + 1) M' (gridM ns m2))) H' := fun H' s' => by
    have z := q H' ((s12.trans s3).trans s')
    unfold withinB at z
    rw [e] at z
    exact z
  clear q hG hg2 s1 s2 s12 s3 hT hT2 ok
  obtain ⟨as, ha, hp⟩ := id hGs
  obtain ⟨as2, ha2, hp2⟩ := id hG2
  have hSq2 : Sq (gridM ns m2) (ns.length + 1) := gridM_sq
  have hn : ns.length + 1 ≤ 21 := by omega
  generalize ns.length + 1 = n at *
  have la : (as.map V.ref).length = n := by rw [List.length_map, ← Paired.length hp, hSq.rows]
  -- all pairs of places
  refine ⟨_, rfl, g, _, rfl, .inl (SqL.of ha), ?_⟩
  rw [la]
  refine ⟨(n : Nat), rfl, (big n hn).1, (big n hn).2, fun D hD => ?_⟩
  rw [Int.toNat_natCast]
  refine walk_turns (walk_range (lo := 0) (n := n)) (fun i H' => Same H3 H' ∧ ∃ bs : List Addr, H' D = some (.lst (bs.map V.ref)) ∧ Paired (fun (e : Nat × Nat) a => H' a = some (.tup [.int (e.1 : Nat), .int (e.2 : Nat)])) (prsN n i) bs)
    ⟨same_new hD _, [], upd_same, .nil⟩ (fun _ _ _ _ => True.intro) ?_ ?_
  · rintro i z H5 H6 hi ⟨s5, bs, hD5, pr5⟩ ⟨rfl, hz⟩
    have hz := zi hz
    subst hz
    refine ⟨rfl, yes_ ?_⟩
    refine ⟨_, rfl, g, _, rfl, .inl (SqL.of (s5 _ _ ha)), ?_⟩
    rw [la]
    refine ⟨(n : Nat), rfl, (big n hn).1, (big n hn).2, ?_⟩
    rw [Int.toNat_natCast]
    refine walk_turns (walk_range (lo := 0) (n := n)) (fun j H' => Same H3 H' ∧ ∃ bs : List Addr, H' D = some (.lst (bs.map V.ref)) ∧ Paired (fun (e : Nat × Nat) a => H' a = some (.tup [.int (e.1 : Nat), .int (e.2 : Nat)])) (prsN n i ++ (List.range j).map fun b => (i, b)) bs)
      ⟨s5, bs, hD5, by rw [List.range_zero, List.map_nil, List.append_nil]; exact pr5⟩ (fun _ _ _ _ => True.intro) ?_ ?_
    · rintro j z H7 H8 hj ⟨s7, cs, hD7, pr7⟩ ⟨rfl, hz⟩
      have hz := zi hz
      subst hz
      refine ⟨rfl, yes_ ?_⟩
      have lc : cs.length < 1000 := by
        rw [← Paired.length pr7, List.length_append, prsN_len, List.length_map, List.length_range]
        have : i * n ≤ 21 * 21 := Nat.mul_le_mul (by omega) hn
        omega
      refine ⟨_, rfl, _, rfl, (by show 2 ≤ sizeLine; decide), fun tp htp => ⟨_, same_new htp _ _ _ hD7, small1000 (by rw [List.length_map]; omega), fun b o e => ?_, cs ++ [tp], ?_, ?_⟩⟩
      · rw [upd_ne (ne_of_none e hD)]
        exact same_new htp _ _ _ (s7 _ _ e)
      · rw [upd_same, List.map_append]
        rfl
      · have keep : ∀ {a : Addr} {xs : List V} {o : HO}, upd H8 tp (.tup [.int (i : Nat), .int (j : Nat)]) a = some (.tup xs) → upd (upd H8 tp (.tup [.int (i : Nat), .int (j : Nat)])) D o a = some (.tup xs) := fun h => by
          rw [upd_ne (ne_of h (same_new htp _ _ _ hD7) fun z => nomatch z)]
          exact h
        rw [List.range_succ, List.map_append, ← List.append_assoc]
        exact Rw.Paired.snoc (Rw.Paired.imp pr7 fun x y _ h => keep (same_new htp _ _ _ h)) (keep upd_same)
    · rintro H7 ⟨s7, cs, hD7, pr7⟩
      exact ⟨s7, cs, hD7, by rw [prsN_succ]; exact pr7⟩
  rintro H4 ⟨s4, bs, hD4, pr4⟩
  have lb : (bs.map V.ref).length = (prsN n n).length := by rw [List.length_map, ← Paired.length pr4]
  have l4 : (prsN n n).length ≤ 441 := by
    rw [prsN_len]
    exact Nat.mul_le_mul hn hn
  -- each of them
  refine ⟨_, rfl, D, rfl, ⟨_, SqL.of hD4⟩, fun D2 hD2 => ?_⟩
  refine lc_map (S := Same) (walk_list (K := K) (a := D) (xs := bs.map V.ref)) (stp_same D2) hD2 (by rw [lb]; omega) (ofL (prsN n n) fun _ => true) (fun j H y => ∃ e, (prsN n n)[j]? = some e ∧ y = .bl (asC (matAt M' e.1 e.2) (matAt (gridM ns m2) e.1 e.2))) ?_ ?_ ?_ ?_ ?_
  · intro j H4 H5 y s4 z
    exact z
  · intro j H4 y acc o hacc z
    exact z
  · intro H5 s5
    exact s5.seq (SqL.of hD4)
  · rintro j y H9 H10 acc N Z hj s9 hacc ⟨rfl, hy⟩ hyes hno
    obtain ⟨t, ht, rfl⟩ := at_map hy
    obtain ⟨⟨i, k⟩, he, het⟩ := paired_at pr4 ht
    have hem := mem_prsN.mp (List.mem_of_getElem? he)
    have hi : i < n := hem.1
    have hk : k < n := hem.2
    have s39 := s4.trans s9
    obtain ⟨r, ar, hr', har, har', hHr, hrl, hmr⟩ := Grid.row (H := H3) (g := g) hp hSq hi
    obtain ⟨r2, ar2, hr2', har2, har2', hHr2, hrl2, hmr2⟩ := Grid.row (H := H3) (g := g2) hp2 hSq2 hi
    have c1 := row_cell hrl hk
    have c2 := row_cell hrl2 hk
    rw [← hmr k] at c1
    rw [← hmr2 k] at c2
    refine ⟨t, _, rfl, SqT.of (s9 _ _ het), rfl, _, _, rfl, _, _, rfl, rfl, rfl, ?_⟩
    refine yes_ ?_
    refine ⟨_, rfl, _, rfl, g, _, _, _, rfl, rfl, SqL.of (s39 _ _ ha), atI_nat har', _, rfl, ar, _, _, _, rfl, rfl, SqL.of (s39 _ _ hHr), atI_nat c1, ?_⟩
    refine ⟨_, rfl, _, rfl, g2, _, _, _, rfl, rfl, SqL.of (s39 _ _ ha2), atI_nat har2', _, rfl, ar2, _, _, _, rfl, rfl, SqL.of (s39 _ _ hHr2), atI_nat c2, ?_⟩
    exact ⟨_, _, rfl, hyes (by rw [ofL_at he]) _ _ (Same.refl _) ⟨(i, k), he, rfl⟩⟩
  intro ys H9 s9 e9 r9
  rw [lb] at r9
  have r10 : Paired (fun (e : Nat × Nat) y' => y' = V.bl (asC (matAt M' e.1 e.2) (matAt (gridM ns m2) e.1 e.2))) ((prsN n n).filter fun _ => true) ys := chosen_whole (fun j z y' hz ⟨z', hz', e⟩ => by rw [hz] at hz'; cases hz'; exact e) r9
  rw [List.filter_eq_self.mpr fun _ _ => rfl] at r10
  have ey := paired_eq (f := fun e : Nat × Nat => V.bl (asC (matAt M' e.1 e.2) (matAt (gridM ns m2) e.1 e.2))) r10
  refine ⟨D2, (prsN n n).map fun e => asC (matAt M' e.1 e.2) (matAt (gridM ns m2) e.1 e.2), rfl, SqL.of ?_, ?_⟩
  · rw [e9, ey, List.map_map]
    rfl
  · have z := q' H9 (s4.trans s9)
    unfold allAs at z
    rw [List.all_map]
    exact z
end
end Rw
set_option Elab.async false
set_option linter.all false
set_option maxRecDepth 100000
set_option maxHeartbeats 4000000
namespace Rw
open PySem L2
abbrev sRing : Stmt := top 34
abbrev sFirst : Stmt := top 35
abbrev sLonger : Stmt := top 36
abbrev sFilled : Stmt := top 38
abbrev sSpread : Stmt := top 39
/-- a walk: none, or its sum and what it comes to -/
def WalkV (H : Hp) (n k : Nat) (v : V) : Prop := v = .non ∨ ∃ (t wt : Addr) (L : Int) (is : List Nat), v = .ref t ∧ H t = some (.tup [.int L, .ref wt]) ∧ H wt = some (.tup (is.map fun i : Nat => V.int (i : Int))) ∧ (∀ i ∈ is, i < n) ∧ is ≠ [] ∧ is.length ≤ k
theorem WalkV.same {H H' : Hp} {n k : Nat} {v : V} (h : WalkV H n k v) (s : Same H H') : WalkV H' n k v := h.imp id fun ⟨t, wt, L, is, e, h1, h2, r⟩ => ⟨t, wt, L, is, e, s _ _ h1, s _ _ h2, r⟩
theorem WalkV.mono {H : Hp} {n k k' : Nat} {v : V} (h : WalkV H n k v) (l : k ≤ k') : WalkV H n k' v := h.imp id fun ⟨t, wt, L, is, e, h1, h2, h3, h4, h5⟩ => ⟨t, wt, L, is, e, h1, h2, h3, h4, Nat.le_trans h5 l⟩
theorem WalkV.upd {H : Hp} {n k : Nat} {v : V} {D : Addr} {acc : List V} {o : HO} (h : WalkV H n k v) (hD : H D = some (.lst acc)) : WalkV (upd H D o) n k v := h.imp id fun ⟨t, wt, L, is, e, h1, h2, r⟩ =>
  ⟨t, wt, L, is, e, by rw [upd_ne (ne_of h1 hD fun z => nomatch z)]; exact h1, by rw [upd_ne (ne_of h2 hD fun z => nomatch z)]; exact h2, r⟩
/-- a row of walks -/
def LV (H : Hp) (l : Addr) (n k : Nat) : Prop := ∃ xs : List V, H l = some (.lst xs) ∧ xs.length = n ∧ ∀ v ∈ xs, WalkV H n k v
theorem LV.same {H H' : Hp} {l : Addr} {n k : Nat} (h : LV H l n k) (s : Same H H') : LV H' l n k := by
  obtain ⟨xs, e, hl, hv⟩ := h
  exact ⟨xs, s _ _ e, hl, fun v hm => (hv v hm).same s⟩
/-- rows of walks -/
def WL (H : Hp) (g : Addr) (n k : Nat) : Prop := ∃ as : List Addr, H g = some (.lst (as.map V.ref)) ∧ as.length = n ∧ ∀ a ∈ as, LV H a n k
theorem WL.same {H H' : Hp} {g : Addr} {n k : Nat} (h : WL H g n k) (s : Same H H') : WL H' g n k := by
  obtain ⟨as, e, hl, hv⟩ := h
  exact ⟨as, s _ _ e, hl, fun a hm => (hv a hm).same s⟩
theorem grid_at {H : Hp} {g : Addr} {M : Mat} {n i j : Nat} (hG : Grid H g M) (hS : Sq M n) (hi : i < n) (hj : j < n) : ∃ (as : List Addr) (ar : Addr) (r : List Code'), H g = some (.lst (as.map V.ref)) ∧ (as.map V.ref)[i]? = some (.ref ar) ∧ H ar = some (.lst (r.map cv)) ∧ (r.map cv)[j]? = some (cv (matAt M i j)) := by
  obtain ⟨as, ha, hp⟩ := id hG
  obtain ⟨r, ar, _, _, h1, h2, hrl, hm⟩ := Grid.row (H := H) (g := g) hp hS hi
  have c := row_cell hrl hj
  rw [← hm j] at c
  exact ⟨as, ar, r, ha, h1, h2, c⟩
section
variable {P : Program} {w : World} {K : PySem.W.Frag} {mg : Str → Option Value} {base : Heap}
def spAlike (K : PySem.W.Frag) (C CU : Addr) : Sp := fun vs H Q E => ∃ (p p2 : Addr) (ns ns2 : List Str) (m m2 : List (Pr × Bd)), vs = [.ref p, .ref p2] ∧ Tab K C H p ns m ∧ Tab K C H p2 ns2 m2 ∧ (ns = ns2 → ∀ H', Same H H' → Q (.bl (withinB ns m m2 && withinB ns m2 m)) H') ∧ (ns ≠ ns2 → ∀ H', Same H H' → E (.ref CU) none H')
theorem scAlike : FnScope ["one", "other"] ["one", "other"] (defScope sAlike) := ⟨rfl, rfl, rfl, by decide +kernel, rfl, by decide +kernel, by decide +kernel⟩
theorem ok_alike {f fW C CU : Addr} {fd fdW : FuncData} (F : Fun K "alike" "alike" sAlike f fd) (gW : Got P w K mg base (L2.CX P w) 4 "within" ["one", "other"] (spWithin K C CU) fW fdW) :
    FnOk P w K mg base (L2.CX P w) 5 f fd ["one", "other"] (spAlike K C CU) := by
  refine F.okX scAlike (fun vs H Q E h => ?_) (fun cdv A outer s H vs Q E hr h => ?_)
  · obtain ⟨p, p2, ns, ns2, m, m2, rfl, _⟩ := h
    rfl
  obtain ⟨p, p2, ns, ns2, m, m2, rfl, hT, hT2, q0, q1⟩ := h
  refine ⟨_, pss_one (ps_ret (pe_and (pe_callS gW.G hr rfl gW.m gW.k gW.b (fun σ => passAt (takes_of rfl rfl rfl rfl) σ) (pa_cons (pv 0) (pa_cons (pv 1) pa_nil)))
    (pe_one (pe_callS gW.G hr rfl gW.m gW.k gW.b (fun σ => passAt (takes_of rfl rfl rfl rfl) σ) (pa_cons (pv 1) (pa_cons (pv 0) pa_nil)))))), ?_⟩
  refine ⟨_, rfl, _, rfl, p, p2, ns, ns2, m, m2, rfl, hT, hT2, fun e H1 s1 => ?_, fun e H1 s1 => q1 e H1 s1⟩
  subst e
  refine ⟨_, rfl, ?_⟩
  cases e : withinB ns m m2 with
  | false =>
    refine (if_neg (by decide)).mpr ?_
    have z := q0 rfl H1 s1
    rw [e] at z
    exact z
  | true =>
    refine (if_pos rfl).mpr ?_
    refine ⟨_, rfl, _, rfl, p2, p, ns, ns, m2, m, rfl, hT2.same s1, hT.same s1, fun _ H2 s2 => ?_, fun z => absurd rfl z⟩
    have z := q0 rfl H2 (s1.trans s2)
    rw [e] at z
    exact z
def spFirst : Sp := fun vs H Q _ => ∃ (g : Addr) (M : Mat) (n i j : Nat), vs = [.ref g, .int (i : Nat), .int (j : Nat)] ∧ Grid H g M ∧ Sq M n ∧ i < n ∧ j < n ∧ ∀ v H', Same H H' → WalkV H' n 1 v → Q v H'
theorem scFirst : FnScope ["steps", "one", "other"] ["steps", "one", "other"] (defScope sFirst) := ⟨rfl, rfl, rfl, by decide +kernel, rfl, by decide +kernel, by decide +kernel⟩
theorem ok_first {f : Addr} {fd : FuncData} (F : Fun K "first_walk" "first_walk" sFirst f fd) : FnOk P w K mg base CX0 1 f fd ["steps", "one", "other"] spFirst := by
  refine F.ok scFirst (fun vs H Q E h => ?_) (fun cdv A outer s H vs Q E hr h => ?_)
  · obtain ⟨g, M, n, i, j, rfl, _⟩ := h
    rfl
  obtain ⟨g, M, n, i, j, rfl, hG, hS, hi, hj, q⟩ := h
  refine ⟨_, pss_cons (ps_if (PW.pt (pw_or (pt_cmpR op_eq (pv 1) (pv 2) (nomark _)) (pw_or1 (pt_cmpR op_isN (pe_ix ix_list (pe_ix ix_list (pv 0) (pv 1) (fun _ _ => rfl)) (pv 2) (fun _ _ => rfl)) pe_non (nomark _))))) (pss_one (ps_ret pe_non)) pss_nil)
    (pss_one (ps_ret (pe_tup (pa_cons (pe_ix ix_list (pe_ix ix_list (pv 0) (pv 1) (fun _ _ => rfl)) (pv 2) (fun _ _ => rfl)) (pa_cons (pe_tup (pa_cons (pv 1) pa_nil)) pa_nil))))), ?_⟩
  obtain ⟨as, ar, r, ha, har, hr', hc⟩ := grid_at hG hS hi hj
  refine ⟨_, rfl, _, rfl, rfl, _, rfl, ?_⟩
  refine ite2 (fun e => iteT (q _ _ (Same.refl H) (.inl rfl))) (fun e => ?_)
  refine ⟨_, rfl, _, rfl, g, _, _, _, rfl, rfl, SqL.of ha, atI_nat har, _, rfl, ar, _, _, _, rfl, rfl, SqL.of hr', atI_nat hc, rfl, _, rfl, ?_⟩
  cases em : matAt M i j with
  | none => exact iteT (q _ _ (Same.refl H) (.inl rfl))
  | some L =>
    rw [em] at hc
    refine iteF ?_
    refine ⟨_, rfl, _, rfl, g, _, _, _, rfl, rfl, SqL.of ha, atI_nat har, _, rfl, ar, _, _, _, rfl, rfl, SqL.of hr', atI_nat hc, _, rfl, (by show 1 ≤ sizeLine; decide), fun wt hwt => ⟨(by show 2 ≤ sizeLine; decide), fun t ht => ?_⟩⟩
    have s1 := same_new hwt (.tup [.int (i : Nat)])
    have s2 := same_new ht (.tup [cv (some L), .ref wt])
    exact q _ _ (s1.trans s2) (.inr ⟨t, wt, L, [i], rfl, upd_same, s2 _ _ upd_same, (fun a ha => by cases List.mem_singleton.mp ha; exact hi), (fun z => nomatch z), Nat.le_refl 1⟩)
end
end Rw
set_option Elab.async false
set_option linter.all false
set_option maxRecDepth 100000
set_option maxHeartbeats 4000000
namespace Rw
open PySem L2
section
variable {P : Program} {w : World} {K : PySem.W.Frag} {mg : Str → Option Value} {base : Heap}
def nLonger : List Str := ["walks", "steps", "other", "best", "at", "walk", "length"]
theorem scLonger : FnScope nLonger ["walks", "steps", "other"] (defScope sLonger) := ⟨rfl, rfl, rfl, by decide +kernel, rfl, by decide +kernel, by decide +kernel⟩
def spLonger : Sp := fun vs H Q _ => ∃ (l g : Addr) (M : Mat) (n j k : Nat), vs = [.ref l, .ref g, .int (j : Nat)] ∧ LV H l n k ∧ Grid H g M ∧ Sq M n ∧ j < n ∧ n ≤ 21 ∧ k ≤ 1000 ∧ ∀ v H', Same H H' → WalkV H' n (k + 1) v → Q v H'
theorem ok_longer {f fS : Addr} {fd dS : FuncData} (F : Fun K "longer_walk" "longer_walk" sLonger f fd) (gS : Got P w K mg base CX0 1 "code_sum" ["one", "other"] spCodeSum fS dS) (me : mg "enumerate" = none) :
    FnOk P w K mg base CX0 2 f fd ["walks", "steps", "other"] spLonger := by
  refine F.ok scLonger (fun vs H Q E h => ?_) (fun cdv A outer s H vs Q E hr h => ?_)
  · obtain ⟨l, g, M, n, j, k, rfl, _⟩ := h
    rfl
  obtain ⟨l, g, M, n, j, k, rfl, hL, hG, hS, hj, hn, hk, q⟩ := h
  refine ⟨_, pss_cons (ps_set (i := 3) scLonger.nd rfl (Or.inl rfl) pe_non)
    (pss_cons (ps_for PassesOwn.never rfl (pi_enumS rfl me (pa_cons (pv 0) pa_nil)) (pg_tup rfl (pgs_cons (pg_name (i := 4) scLonger.nd rfl (Or.inl rfl)) (pgs_cons (pg_name (i := 5) scLonger.nd rfl (Or.inl rfl)) pgs_nil)))
      (pss_cons (ps_if (PW.pt (pw_or (pt_cmpR op_isN (pv 5) pe_non (nomark _)) (pw_or (pt_cmpR op_eq (pv 4) (pv 2) (nomark _)) (pw_or1 (pt_cmpR op_isN (pe_ix ix_list (pe_ix ix_list (pv 1) (pv 4) (fun _ _ => rfl)) (pv 2) (fun _ _ => rfl)) pe_non (nomark _)))))) (pss_one ps_continue) pss_nil)
      (pss_cons (ps_set (i := 6) scLonger.nd rfl (Or.inl rfl) (pe_call gS.G hr rfl gS.m gS.k gS.b .nil pass0 (pa_cons (pe_ix ix_seq (pv 5) pe_int (fun _ _ => rfl)) (pa_cons (pe_ix ix_list (pe_ix ix_list (pv 1) (pv 4) (fun _ _ => rfl)) (pv 2) (fun _ _ => rfl)) pa_nil))))
      (pss_one (ps_if (PW.pt (pw_or (pt_cmpR op_isN (pv 3) pe_non (nomark _)) (pw_or1 (pt_cmpR op_lt (pv 6) (pe_ix ix_seq (pv 3) pe_int (fun _ _ => rfl)) (nomark _)))))
        (pss_one (ps_set (i := 3) scLonger.nd rfl (Or.inl rfl) (pe_tup (pa_cons (pv 6) (pa_cons (pe_op op_catT (pe_ix ix_seq (pv 5) pe_int (fun _ _ => rfl)) (pe_tup (pa_cons (pv 4) pa_nil))) pa_nil))))) pss_nil)))))
    (pss_one (ps_ret (pv 3)))), ?_⟩
  obtain ⟨xs, hx, hxl, hxv⟩ := id hL
  obtain ⟨J, G, hJ, wk, hGd⟩ := enumJ_of (K := K) (.inl (SqL.of hx))
  rw [hxl] at wk
  refine ⟨_, rfl, l, xs, J, rfl, hJ, for_it wk (fun i σ' H' => ∃ (b : V) (u4 u5 u6 : Option V), σ' = [some (.ref l), some (.ref g), some (.int (j : Nat)), some b, u4, u5, u6] ∧ Same H H' ∧ WalkV H' n (k + 1) b) ⟨.non, none, none, none, rfl, Same.refl H, .inl rfl⟩ ?_ ?_ ?_⟩
  · rintro i σ' H' hi ⟨b, u4, u5, u6, rfl, s2, hb⟩
    exact hGd H' s2
  · rintro i x σ' H2 H3 hi ⟨b, u4, u5, u6, rfl, s2, hb⟩ ⟨T, y, z, rfl, hT3, rfl, ey, ez⟩
    cases ey
    have hz := (hxv z (List.mem_of_getElem? ez)).same s2
    have s3 := same_new hT3 (.tup [.int (i : Nat), z])
    refine ⟨T, _, rfl, SqT.of upd_same, rfl, _, _, rfl, _, _, rfl, rfl, ?_⟩
    have hz3 := hz.same s3
    have hb3 := hb.same s3
    have s23 := s2.trans s3
    generalize upd H2 T (.tup [.int (i : Nat), z]) = H4 at hz3 hb3 s23
    clear hz hb s2 s3 hT3
    refine ⟨_, rfl, rfl, _, rfl, ?_⟩
    rcases hz3 with rfl | ⟨t, wt, L, is, rfl, ht, hwt, his, hne, hlen⟩
    · exact iteT (iteT ⟨b, _, _, _, rfl, s23, hb3⟩)
    refine (if_neg (show ¬ decide (V.ref t = V.non) = true by rw [decide_eq_false (fun z : V.ref t = V.non => nomatch z)]; exact Bool.false_ne_true)).mpr ?_
    refine ⟨_, rfl, _, rfl, rfl, _, rfl, ?_⟩
    refine ite2 (fun e => iteT ⟨b, _, _, _, rfl, s23, hb3⟩) (fun e => ?_)
    obtain ⟨as, ar, r, ha, har, hr', hc⟩ := grid_at (hG.same s23) hS hi hj
    refine ⟨_, rfl, _, rfl, g, _, _, _, rfl, rfl, SqL.of ha, atI_nat har, _, rfl, ar, _, _, _, rfl, rfl, SqL.of hr', atI_nat hc, rfl, _, rfl, ?_⟩
    cases em : matAt M i j with
    | none => exact iteT ⟨b, _, _, _, rfl, s23, hb3⟩
    | some m =>
      rw [em] at hc
      refine iteF ?_
      refine ⟨_, rfl, rIx_seq (.inr (SqT.of ht)) (show atI [V.int L, V.ref wt] 0 = some (V.int L) from rfl) ?_⟩
      refine ⟨_, rfl, _, rfl, g, _, _, _, rfl, rfl, SqL.of ha, atI_nat har, _, rfl, ar, _, _, _, rfl, rfl, SqL.of hr', atI_nat hc, ?_⟩
      refine ⟨some L, some m, rfl, ?_⟩
      obtain ⟨L', eL⟩ : ∃ L' : Int, sumC (some L) (some m) = some L' := by
        by_cases c : L % 2 = 1 ∨ m % 2 = 1
        · exact ⟨L + m - 1, if_pos c⟩
        · exact ⟨L + m, if_neg c⟩
      rw [eL]
      have hne' : (is.map fun i : Nat => V.int (i : Int)) ≠ [] := fun z => hne (List.map_eq_nil_iff.mp z)
      have lw : (is.map fun i : Nat => V.int (i : Int)).length + 1 ≤ sizeLine := by
        rw [List.length_map]
        exact Nat.le_of_lt (Nat.lt_of_le_of_lt (show is.length + 1 ≤ 1001 by omega) (by decide))
      have grown : ∀ {p1 p2 p3 : Addr}, H4 p1 = none → upd H4 p1 (.tup [.int (i : Nat)]) p2 = none → upd (upd H4 p1 (.tup [.int (i : Nat)])) p2 (.tup ((is.map fun i : Nat => V.int (i : Int)) ++ [.int (i : Nat)])) p3 = none →
          Same H4 (upd (upd (upd H4 p1 (.tup [.int (i : Nat)])) p2 (.tup ((is.map fun i : Nat => V.int (i : Int)) ++ [.int (i : Nat)]))) p3 (.tup [.int L', .ref p2])) ∧ WalkV (upd (upd (upd H4 p1 (.tup [.int (i : Nat)])) p2 (.tup ((is.map fun i : Nat => V.int (i : Int)) ++ [.int (i : Nat)]))) p3 (.tup [.int L', .ref p2])) n (k + 1) (.ref p3) := fun {p1 p2 p3} h1 h2 h3 => by
        refine ⟨((same_new h1 _).trans (same_new h2 _)).trans (same_new h3 _), .inr ⟨p3, p2, L', is ++ [i], rfl, upd_same, ?_, fun a ha => ?_, (fun z => ?_), ?_⟩⟩
        · rw [List.map_append]
          exact same_new h3 _ _ _ upd_same
        · rcases List.mem_append.mp ha with z | z
          · exact his a z
          · cases List.mem_singleton.mp z
            exact hi
        · exact absurd (List.append_eq_nil_iff.mp z).2 (fun w => nomatch w)
        · rw [List.length_append]
          show is.length + 1 ≤ k + 1
          omega
      refine ⟨_, rfl, rfl, _, rfl, ?_⟩
      rcases hb3 with rfl | ⟨t0, wt0, L0, is0, rfl, ht0, hwt0, his0, hne0, hlen0⟩
      · refine iteT (iteT ?_)
        refine ⟨_, rfl, _, rfl, rIx_seq (.inr (SqT.of ht)) (show atI [V.int L, V.ref wt] 1 = some (V.ref wt) from rfl) ⟨_, rfl, (by show 1 ≤ sizeLine; decide), fun p1 h1 => ?_⟩⟩
        refine ⟨wt, p1, _, _, rfl, rfl, SqT.of (same_new h1 _ _ _ hwt), SqT.of upd_same, hne', lw, (fun z => nomatch z), fun _ p2 h2 => ⟨(by show 2 ≤ sizeLine; decide), fun p3 h3 => ?_⟩⟩
        exact ⟨.ref p3, _, _, _, rfl, s23.trans (grown h1 h2 h3).1, (grown h1 h2 h3).2⟩
      · refine (if_neg (show ¬ decide (V.ref t0 = V.non) = true by rw [decide_eq_false (fun z : V.ref t0 = V.non => nomatch z)]; exact Bool.false_ne_true)).mpr ?_
        refine ⟨_, rfl, _, rfl, rIx_seq (.inr (SqT.of ht0)) (show atI [V.int L0, V.ref wt0] 0 = some (V.int L0) from rfl) ⟨_, _, rfl, rfl, _, rfl, ?_⟩⟩
        refine ite2 (fun _ => ?_) (fun _ => ?_)
        · refine ⟨_, rfl, _, rfl, rIx_seq (.inr (SqT.of ht)) (show atI [V.int L, V.ref wt] 1 = some (V.ref wt) from rfl) ⟨_, rfl, (by show 1 ≤ sizeLine; decide), fun p1 h1 => ?_⟩⟩
          refine ⟨wt, p1, _, _, rfl, rfl, SqT.of (same_new h1 _ _ _ hwt), SqT.of upd_same, hne', lw, (fun z => nomatch z), fun _ p2 h2 => ⟨(by show 2 ≤ sizeLine; decide), fun p3 h3 => ?_⟩⟩
          exact ⟨.ref p3, _, _, _, rfl, s23.trans (grown h1 h2 h3).1, (grown h1 h2 h3).2⟩
        · exact ⟨.ref t0, _, _, _, rfl, s23, .inr ⟨t0, wt0, L0, is0, rfl, ht0, hwt0, his0, hne0, hlen0⟩⟩
  · rintro σ' H' ⟨b, u4, u5, u6, rfl, s2, hb⟩
    exact ⟨_, rfl, q b H' s2 hb⟩
end
end Rw
set_option Elab.async false
set_option linter.all false
set_option maxRecDepth 100000
set_option maxHeartbeats 4000000
namespace Rw
open PySem L2
theorem big62 {m : Nat} (hm : m ≤ 21) : (-(2 ^ 62) : Int) ≤ ((m : Nat) : Int) ∧ ((m : Nat) : Int) < 2 ^ 62 := ⟨by omega, by omega⟩
theorem zi0 {i : Nat} {x : V} (e : x = (fun i : Nat => V.int (0 + (i : Int))) i) : x = .int (i : Nat) := by
  rw [e]
  show V.int (0 + (i : Int)) = V.int (i : Int)
  rw [Int.zero_add]
theorem nest_rows {te : TE} {n k : Nat} {u0 u1 u3 u4 u5 u6 u7 u8 u9 u10 : Option V} {H : Hp} {Q : VK} (hn : n ≤ 21)
    (cell : ∀ (i j : Nat) (H' : Hp) (N : VK), i < n → j < n → Same H H' → (∀ v H'', Same H' H'' → WalkV H'' n k v → N v H'') → te [u0, u1, some (.int (n : Nat)), u3, u4, u5, u6, u7, some (.int (i : Nat)), some (.int (j : Nat)), u10] H' N)
    (q : ∀ g H', Same H H' → WL H' g n k → Q (.ref g) H') :
    tLc (iRng1 (tCons (tVar 2) tNil)) (gName 8) tYes (tLc (iRng1 (tCons (tVar 2) tNil)) (gName 9) tYes te [9]) [8] [u0, u1, some (.int (n : Nat)), u3, u4, u5, u6, u7, u8, u9, u10] H Q := by
  refine ⟨_, rfl, (n : Nat), rfl, (big62 hn).1, (big62 hn).2, fun D hD => ?_⟩
  rw [Int.toNat_natCast]
  refine walk_turns (walk_range (lo := 0) (n := n)) (fun i H' => Same H H' ∧ ∃ bs : List Addr, H' D = some (.lst (bs.map V.ref)) ∧ bs.length = i ∧ ∀ b ∈ bs, b ≠ D ∧ LV H' b n k) ⟨same_new hD _, [], upd_same, rfl, fun _ z => nomatch z⟩ (fun _ _ _ _ => True.intro) ?_ ?_
  · rintro i z H1 H2 hi ⟨s1, bs, hD1, hbl, hbs⟩ ⟨rfl, hz⟩
    have hz := zi0 hz
    subst hz
    refine ⟨rfl, yes_ ?_⟩
    refine ⟨_, rfl, (n : Nat), rfl, (big62 hn).1, (big62 hn).2, fun D2 hD2 => ?_⟩
    rw [Int.toNat_natCast]
    refine walk_turns (walk_range (lo := 0) (n := n)) (fun j H' => Same H2 H' ∧ ∃ xs : List V, H' D2 = some (.lst xs) ∧ xs.length = j ∧ ∀ v ∈ xs, WalkV H' n k v) ⟨same_new hD2 _, [], upd_same, rfl, fun _ z => nomatch z⟩ (fun _ _ _ _ => True.intro) ?_ ?_
    · rintro j z H3 H4 hj ⟨s3, xs, hD3, hxl, hxs⟩ ⟨rfl, hz⟩
      have hz := zi0 hz
      subst hz
      refine ⟨rfl, yes_ ?_⟩
      refine cell i j _ _ hi hj (s1.trans s3) fun v H5 s5 hv => ?_
      refine ⟨xs, s5 _ _ hD3, small1000 (by omega), fun b o e => ?_, xs ++ [v], upd_same, by rw [List.length_append, hxl]; rfl, fun u hu => ?_⟩
      · rw [upd_ne (ne_of_none e hD2)]
        exact s5 _ _ (s3 _ _ e)
      · rcases List.mem_append.mp hu with z | z
        · exact ((hxs u z).same s5).upd (s5 _ _ hD3)
        · cases List.mem_singleton.mp z
          exact hv.upd (s5 _ _ hD3)
    · rintro H3 ⟨s3, xs, hD3, hxl, hxs⟩
      have d3 := s3 _ _ hD1
      have nDD : D2 ≠ D := (ne_of_none hD1 hD2).symm
      have keep : Same H (upd H3 D (.lst (bs.map V.ref ++ [.ref D2]))) := fun b o e => by
        rw [upd_ne (ne_of_none e hD)]
        exact s3 _ _ (s1 _ _ e)
      have lvk : ∀ {b : Addr} {o : HO}, b ≠ D → LV H3 b n k → LV (upd H3 D o) b n k := fun {b o} hb ⟨ys, e, hl, hv⟩ => ⟨ys, by rw [upd_ne hb]; exact e, hl, fun v hm => (hv v hm).upd d3⟩
      refine ⟨_, d3, small1000 (by rw [List.length_map]; omega), keep, bs ++ [D2], ?_, by rw [List.length_append, hbl]; rfl, fun b hb => ?_⟩
      · rw [upd_same, List.map_append]
        rfl
      · rcases List.mem_append.mp hb with z | z
        · exact ⟨(hbs b z).1, lvk (hbs b z).1 ((hbs b z).2.same s3)⟩
        · cases List.mem_singleton.mp z
          exact ⟨nDD, lvk nDD ⟨xs, hD3, hxl, hxs⟩⟩
  · rintro H1 ⟨s1, bs, hD1, hbl, hbs⟩
    exact q D H1 s1 ⟨bs, hD1, hbl, fun b hb => (hbs b hb).2⟩
end Rw
set_option Elab.async false
set_option linter.all false
set_option maxRecDepth 100000
set_option maxHeartbeats 4000000
namespace Rw
open PySem L2
theorem at_str {ns : List Str} {a : Str} {i : Nat} (e : ns[i]? = some a) : (ns.map V.str)[i]? = some (.str a) := by rw [List.getElem?_map, e]; rfl
section
variable {P : Program} {w : World} {K : PySem.W.Frag} {mg : Str → Option Value} {base : Heap}
def nRing : List Str := ["table", "spots", "size", "steps", "walks", "_", "start", "walk", "one", "other", "at"]
theorem scRing : FnScope nRing ["table"] (defScope sRing) := ⟨rfl, rfl, rfl, by decide +kernel, rfl, by decide +kernel, by decide +kernel⟩
def spRing (K : PySem.W.Frag) (C : Addr) : Sp := fun vs H Q _ => ∃ (p : Addr) (ns : List Str) (m : List (Pr × Bd)), vs = [.ref p] ∧ Tab K C H p ns m ∧ ∀ v H', Same H H' → Q v H'
theorem ok_ring {f fn fg fF fL C : Addr} {fd fdn dg dF dL : FuncData} (F : Fun K "ring" "ring" sRing f fd) (T : TxtT K mg C) (GN : FnOk P w K mg base CX0 1 fn fdn ["self"] (spTNames K C)) (bN : Binds K fdn ["self"] []) (hN : Meth K C "names" fn)
    (gg : Got P w K mg base CX0 2 "grid_of" ["table"] (spGridOf K C) fg dg) (gF : Got P w K mg base CX0 1 "first_walk" ["steps", "one", "other"] spFirst fF dF) (gL : Got P w K mg base CX0 2 "longer_walk" ["walks", "steps", "other"] spLonger fL dL)
    (ml : mg "len" = none) (mr : mg "range" = none) (mt : mg "tuple" = none) {tk : Tok} (mU : mg "UPTO_ZERO" = some (.int 1 tk)) : FnOk P w K mg base CX0 3 f fd ["table"] (spRing K C) := by
  refine F.ok scRing (fun vs H Q E h => ?_) (fun cdv A outer s H vs Q E hr h => ?_)
  · obtain ⟨p, ns, m, rfl, _⟩ := h
    rfl
  obtain ⟨p, ns, m, rfl, hT, q⟩ := h
  refine ⟨_, pss_cons (ps_set (i := 1) scRing.nd rfl (Or.inr rfl) (pe_op op_cat (pe_lst (pa_cons pe_str pa_nil)) (pe_meth0 (pv 0) T.cl hN GN (hr.mono (by decide)) bN .nil pass0)))
    (pss_cons (ps_set (i := 2) scRing.nd rfl (Or.inr rfl) (pe_callB call_len_seq rfl ml PySem.boot_len (pa_cons (pv 1) pa_nil)))
    (pss_cons (ps_set (i := 3) scRing.nd rfl (Or.inr rfl) (pe_call gg.G hr rfl gg.m gg.k gg.b .nil pass0 (pa_cons (pv 0) pa_nil)))
    (pss_cons (ps_set (i := 4) scRing.nd rfl (Or.inr rfl) (pe_lc (own := [("one", 8)]) (g := gName 8) (te := tLc (iRng1 (tCons (tVar 2) tNil)) (gName 9) tYes (tCall spFirst [] E0 (tCons (tVar 3) (tCons (tVar 8) (tCons (tVar 9) tNil)))) [9])
        rfl scRing.nd (pi_range1 rfl mr (pa_cons (pv 2) pa_nil)) (blkOk_by (N := nRing) (sc := defScope sRing) (by decide +kernel)) (fun _ _ _ _ _ => pg_name (i := 8) scRing.nd rfl (Or.inr rfl)) (fun _ _ _ _ _ => pts_nil)
        (fun _ _ _ _ _ => pe_lc (own := [("other", 9)]) (g := gName 9) rfl scRing.nd (pi_range1 rfl mr (pa_cons (pv 2) pa_nil)) (blkOk_by (N := nRing) (by rfl)) (fun _ _ _ _ _ => pg_name (i := 9) scRing.nd rfl (Or.inl rfl)) (fun _ _ _ _ _ => pts_nil)
          (fun _ _ _ _ _ => pe_call gF.G (hr.mono (by decide)) rfl gF.m gF.k gF.b .nil pass0 (pa_cons (pv 3) (pa_cons (pv 8) (pa_cons (pv 9) pa_nil)))))))
    (pss_cons (ps_for PassesOwn.never rfl (pi_range1 rfl mr (pa_cons (pe_op op_sub (pv 2) pe_int) pa_nil)) (pg_name (i := 5) scRing.nd rfl (Or.inl rfl))
      (pss_cons (ps_set (i := 4) scRing.nd rfl (Or.inr rfl) (pe_lc (own := [("one", 8)]) (g := gName 8) (te := tLc (iRng1 (tCons (tVar 2) tNil)) (gName 9) tYes (tCall spLonger [] E0 (tCons (tOp (rIxL K) (tVar 4) (tVar 8)) (tCons (tVar 3) (tCons (tVar 9) tNil)))) [9])
        rfl scRing.nd (pi_range1 rfl mr (pa_cons (pv 2) pa_nil)) (blkOk_by (N := nRing) (sc := defScope sRing) (by decide +kernel)) (fun _ _ _ _ _ => pg_name (i := 8) scRing.nd rfl (Or.inr rfl)) (fun _ _ _ _ _ => pts_nil)
        (fun _ _ _ _ _ => pe_lc (own := [("other", 9)]) (g := gName 9) rfl scRing.nd (pi_range1 rfl mr (pa_cons (pv 2) pa_nil)) (blkOk_by (N := nRing) (by rfl)) (fun _ _ _ _ _ => pg_name (i := 9) scRing.nd rfl (Or.inl rfl)) (fun _ _ _ _ _ => pts_nil)
          (fun _ _ _ _ _ => pe_call gL.G hr rfl gL.m gL.k gL.b .nil pass0 (pa_cons (pe_ix ix_list (pv 4) (pv 8) (fun _ _ => rfl)) (pa_cons (pv 3) (pa_cons (pv 9) pa_nil)))))))
      (pss_one (ps_for PassesOwn.never rfl (pi_range1 rfl mr (pa_cons (pv 2) pa_nil)) (pg_name (i := 6) scRing.nd rfl (Or.inl rfl))
        (pss_cons (ps_set (i := 7) scRing.nd rfl (Or.inl rfl) (pe_ix ix_list (pe_ix ix_list (pv 4) (pv 6) (fun _ _ => rfl)) (pv 6) (fun _ _ => rfl)))
        (pss_one (ps_if (PW.pt (pw_and (pt_cmpR op_notN (pv 7) pe_non (nomark _)) (pw_and1 (pt_cmpR op_lt (pe_ix ix_seq (pv 7) pe_int (fun _ _ => rfl)) (pe_glob (v := .int 1) rfl mU ⟨_, rfl⟩) (nomark _)))))
          (pss_one (ps_ret (pe_callTy (call_tupOf (K := K) rfl) rfl mt PyProof.Rows.boot_tuple (pa_cons
            (pe_lc (own := [("at", 10)]) (g := gName 10) (tt := tYes) (te := tOp (rIxL K) (tVar 1) (tVar 10)) rfl scRing.nd (pi_tup (pe_ix ix_seq (pv 7) pe_int (fun _ _ => rfl))) (blkOk_by (N := nRing) (sc := defScope sRing) (by decide +kernel)) (fun _ _ _ _ _ => pg_name (i := 10) scRing.nd rfl (Or.inl rfl)) (fun _ _ _ _ _ => pts_nil)
              (fun _ _ _ _ _ => pe_ix ix_list (pv 1) (pv 10) (fun _ _ => rfl))) pa_nil)))) pss_nil)))))))
    (pss_one (ps_ret pe_non)))))), ?_⟩
  have ok := hT.1
  have few := ok.few
  obtain ⟨_, dx, l, d, hp, hl, hd⟩ := id hT
  have nm : (tf l d).lookup ("names" : Str) = none := tf_no (by decide +kernel) (by decide +kernel)
  -- the spots
  refine ⟨(by show 1 ≤ sizeLine; decide), fun p1 hp1 => ⟨_, rfl, p, dx, _, rfl, same_new hp1 _ _ _ hp, nm, p, ns, m, rfl, hT.same (same_new hp1 _), fun nl hnl => ?_⟩⟩
  refine ⟨p1, nl, _, _, rfl, rfl, (same_new hnl _) _ _ upd_same, upd_same, ?_, fun sp hsp => ?_⟩
  · rw [List.length_map]
    exact Nat.le_of_lt (small1000 (show 1 + ns.length ≤ 1000 by omega))
  have s1 : Same H (upd (upd (upd H p1 (.lst [.str ""])) nl (.lst (ns.map V.str))) sp (.lst ([.str ""] ++ ns.map V.str))) := ((same_new hp1 _).trans (same_new hnl _)).trans (same_new hsp _)
  have e1 : (upd (upd (upd H p1 (.lst [.str ""])) nl (.lst (ns.map V.str))) sp (.lst ([.str ""] ++ ns.map V.str))) sp = some (.lst ((spots ns).map V.str)) := upd_same
  generalize upd (upd (upd H p1 (.lst [.str ""])) nl (.lst (ns.map V.str))) sp (.lst ([.str ""] ++ ns.map V.str)) = H1 at s1 e1
  clear hp1 hnl hsp
  have lsp : ((spots ns).map V.str).length = ns.length + 1 := List.length_map _
  refine ⟨_, rfl, sp, _, rfl, .inl (SqL.of e1), ?_⟩
  rw [lsp]
  -- the grid
  refine ⟨_, rfl, p, ns, m, rfl, hT.same s1, fun g H2 s2 hg hG => ?_⟩
  have s12 := s1.trans s2
  have e2 := s2 _ _ e1
  have hS : Sq (gridM ns m) (ns.length + 1) := gridM_sq
  have hn : ns.length + 1 ≤ 21 := by omega
  -- walks of one step
  dsimp only [gName, tSeq, tAsg]
  refine nest_rows (n := ns.length + 1) (k := 1) (u0 := some (.ref p)) (u1 := some (.ref sp)) (u3 := some (.ref g)) (u4 := none) (u5 := none) (u6 := none) (u7 := none) (u8 := none) (u9 := none) (u10 := none) hn (fun i j H' N hi hj s' hN' => ?_) fun wk H3 s3 hW => ?_
  · exact ⟨_, rfl, _, rfl, _, rfl, g, gridM ns m, ns.length + 1, i, j, rfl, hG.same s', hS, hi, hj, fun v H'' s'' hv => hN' v H'' s'' hv⟩
  have s13 := s12.trans s3
  -- longer walks
  refine ⟨_, rfl, _, _, rfl, rfl, ?_⟩
  have en : ((ns.length + 1 : Nat) : Int) - 1 = ((ns.length : Nat) : Int) := by omega
  show ∃ j : Int, [V.int (((ns.length + 1 : Nat) : Int) - 1)] = [.int j] ∧ _
  rw [en]
  refine ⟨(ns.length : Nat), rfl, (big62 (by omega)).1, (big62 (by omega)).2, ?_⟩
  rw [Int.toNat_natCast]
  refine for_range (n := ns.length) (fun i σ' H' => ∃ (wk' : Addr) (u5 u6 u7 u8 u9 u10 : Option V), σ' = [some (.ref p), some (.ref sp), some (.int ((ns.length + 1 : Nat) : Int)), some (.ref g), some (.ref wk'), u5, u6, u7, u8, u9, u10] ∧ Same H2 H' ∧ WL H' wk' (ns.length + 1) (1 + i)) ?_ ?_ ?_
  · exact ⟨wk, none, none, none, none, none, none, rfl, s3, hW⟩
  · rintro i σ' H4 hi ⟨wk', u5, u6, u7, u8, u9, u10, rfl, s4, hW4⟩
    rw [Int.zero_add]
    dsimp only [gName, tSeq, tAsg]
    refine nest_rows (n := ns.length + 1) (k := 1 + i + 1) (u0 := some (.ref p)) (u1 := some (.ref sp)) (u3 := some (.ref g)) (u4 := some (.ref wk')) (u5 := some (.int (i : Nat))) (u6 := u6) (u7 := u7) (u8 := u8) (u9 := u9) (u10 := u10) hn (fun a b H' N ha hb s' hN' => ?_) fun wk2 H5 s5 hW5 => ?_
    · obtain ⟨as, ea, la, hv⟩ := hW4.same s'
      obtain ⟨la', hla⟩ : ∃ l, as[a]? = some l := ⟨as[a]'(by omega), List.getElem?_eq_getElem (by omega)⟩
      have hrow : (as.map V.ref)[a]? = some (.ref la') := by rw [List.getElem?_map, hla]; rfl
      refine ⟨_, rfl, _, rfl, wk', _, _, _, rfl, rfl, SqL.of ea, atI_nat hrow, _, rfl, _, rfl, la', g, gridM ns m, ns.length + 1, b, 1 + i, rfl, hv la' (List.mem_of_getElem? hla), (hG.same s4).same s', hS, hb, hn, by omega, fun v H'' s'' hv' => hN' v H'' s'' hv'⟩
    · have s25 := s4.trans s5
      refine ⟨_, rfl, (ns.length + 1 : Nat), rfl, (big62 hn).1, (big62 hn).2, ?_⟩
      rw [Int.toNat_natCast]
      refine for_range (n := ns.length + 1) (fun j σ' H' => ∃ (u5 u6 u7 u8 u9 u10 : Option V), σ' = [some (.ref p), some (.ref sp), some (.int ((ns.length + 1 : Nat) : Int)), some (.ref g), some (.ref wk2), u5, u6, u7, u8, u9, u10] ∧ Same H2 H' ∧ WL H' wk2 (ns.length + 1) (1 + i + 1)) ?_ ?_ ?_
      · exact ⟨_, _, _, _, _, _, rfl, s25, hW5⟩
      · rintro j σ' H6 hj ⟨v5, v6, v7, v8, v9, v10, rfl, s6, hW6⟩
        rw [Int.zero_add]
        obtain ⟨as, ea, la, hv⟩ := id hW6
        obtain ⟨lr, hlr⟩ : ∃ l, as[j]? = some l := ⟨as[j]'(by omega), List.getElem?_eq_getElem (by omega)⟩
        have hrow : (as.map V.ref)[j]? = some (.ref lr) := by rw [List.getElem?_map, hlr]; rfl
        obtain ⟨xs, ex, lx, hx⟩ := hv lr (List.mem_of_getElem? hlr)
        obtain ⟨wv, hwv⟩ : ∃ v, xs[j]? = some v := ⟨xs[j]'(by omega), List.getElem?_eq_getElem (by omega)⟩
        have hwk := hx wv (List.mem_of_getElem? hwv)
        refine ⟨_, rfl, _, rfl, wk2, _, _, _, rfl, rfl, SqL.of ea, atI_nat hrow, _, rfl, lr, _, _, _, rfl, rfl, SqL.of ex, atI_nat hwv, ?_⟩
        refine ⟨_, rfl, rfl, _, rfl, ?_⟩
        rcases hwk with rfl | ⟨t, wt, L, is, rfl, ht, hwt, his, hne, hlen⟩
        · exact iteF (iteF ⟨_, _, _, _, _, _, rfl, s6, hW6⟩)
        have e1 : (!decide (V.ref t = V.non)) = true := by
          rw [decide_eq_false (fun z : V.ref t = V.non => nomatch z)]
          rfl
        refine (if_pos e1).mpr ?_
        refine ⟨_, rfl, rIx_seq (.inr (SqT.of ht)) (show atI [V.int L, V.ref wt] 0 = some (V.int L) from rfl) ⟨_, _, rfl, rfl, _, rfl, ?_⟩⟩
        refine ite2 (fun _ => ?_) (fun _ => ?_)
        · refine ⟨_, rfl, rIx_seq (.inr (SqT.of ht)) (show atI [V.int L, V.ref wt] 1 = some (V.ref wt) from rfl) ⟨wt, rfl, ⟨_, SqT.of hwt⟩, fun D hD => ?_⟩⟩
          refine lc_map (S := Same) (walk_tup (K := K) (a := wt) (xs := is.map fun i : Nat => V.int (i : Int))) (stp_same D) hD (by rw [List.length_map]; omega) (fun _ => true) (fun _ _ _ => True) (fun _ _ _ _ _ _ => trivial) (fun _ _ _ _ _ _ _ => trivial) (fun H' s' => sqT_same s' (SqT.of hwt)) ?_ ?_
          · rintro c y H9 H10 acc N Z hc s9 hacc ⟨rfl, hy⟩ hyes hno
            obtain ⟨z, hz, rfl⟩ := at_map hy
            have hzn := his z (List.mem_of_getElem? hz)
            obtain ⟨x, hx'⟩ : ∃ x, (spots ns)[z]? = some x := ⟨(spots ns)[z]'(by show z < ns.length + 1; exact hzn), List.getElem?_eq_getElem (by show z < ns.length + 1; exact hzn)⟩
            refine ⟨rfl, yes_ ?_⟩
            exact ⟨_, rfl, _, rfl, sp, _, _, _, rfl, rfl, SqL.of (s9 _ _ (s6 _ _ e2)), atI_nat (at_str hx'), hyes rfl _ _ (Same.refl _) trivial⟩
          · intro ys H9 s9 e9 _
            refine ⟨D, ys, rfl, .inl ⟨SqL.of e9, fun l0 hl0 => ?_⟩⟩
            exact q _ _ ((s12.trans s6).trans (s9.trans (same_new hl0 _)))
        · exact ⟨_, _, _, _, _, _, rfl, s6, hW6⟩
      · rintro σ' H6 ⟨v5, v6, v7, v8, v9, v10, rfl, s6, hW6⟩
        exact ⟨wk2, _, _, _, _, _, _, rfl, s6, by rw [← Nat.add_assoc]; exact hW6⟩
  · rintro σ' H6 ⟨wk', v5, v6, v7, v8, v9, v10, rfl, s6, hW6⟩
    exact q _ _ (s12.trans s6)
end
end Rw
set_option Elab.async false
set_option linter.all false
set_option maxRecDepth 100000
set_option maxHeartbeats 4000000
namespace Rw
open PySem L2
section
variable {P : Program} {w : World} {K : PySem.W.Frag} {mg : Str → Option Value} {base : Heap}
theorem scFilled : FnScope ["table", "grid"] ["table"] (defScope sFilled) := ⟨rfl, rfl, rfl, by decide +kernel, rfl, by decide +kernel, by decide +kernel⟩
def spFilled (K : PySem.W.Frag) (C CE : Addr) : Sp := fun vs H Q E => ∃ (p : Addr) (ns : List Str) (m : List (Pr × Bd)), vs = [.ref p] ∧ Tab K C H p ns m ∧ shutM (ns.length + 1) (gridM ns m) = none ∧ ∀ d H', Same H H' → E (.ref CE) (some d) H'
theorem ok_filled {f fG fR fI C CE : Addr} {fd dG dR dI : FuncData} (F : Fun K "filled_grid" "filled_grid" sFilled f fd) (EE : ErrN K mg "Empty" "ring" CE fI) (gG : Got P w K mg base CX0 3 "closed_grid" ["table"] (spClosed K C) fG dG) (gR : Got P w K mg base CX0 3 "ring" ["table"] (spRing K C) fR dR)
    (GI : FnOk P w K mg base CX0 1 fI dI ["self", "ring"] (spErrInit CE "ring")) (bI : Binds K dI ["self", "ring"] []) : FnOk P w K mg base (L2.CX P w) 4 f fd ["table"] (spFilled K C CE) := by
  refine F.okX scFilled (fun vs H Q E h => ?_) (fun cdv A outer s H vs Q E hr h => ?_)
  · obtain ⟨p, ns, m, rfl, _⟩ := h
    rfl
  obtain ⟨p, ns, m, rfl, hT, hbad, q⟩ := h
  refine ⟨_, pss_cons (ps_set (i := 1) scFilled.nd rfl (Or.inl rfl) (pe_call gG.G hr rfl gG.m gG.k gG.b .nil pass0 (pa_cons (pv 0) pa_nil)))
    (pss_cons (ps_if (pt_cmpR op_isN (pv 1) pe_non (nomark _)) (pss_one (ps_raise rfl (takes_of rfl rfl rfl rfl) (pmk_oex EE.T EE.iC EE.tI GI (hr.mono (by decide)) bI .nil pass0 rfl EE.gC (pa_cons (pe_call gR.G hr rfl gR.m gR.k gR.b .nil pass0 (pa_cons (pv 0) pa_nil)) pa_nil)))) pss_nil)
    (pss_one (ps_ret (pv 1)))), ?_⟩
  refine ⟨_, rfl, p, ns, m, rfl, hT, fun v H1 s1 hv => ?_⟩
  rcases hv with ⟨_, rfl⟩ | ⟨g', M', e, _⟩
  · refine ⟨_, rfl, rfl, true, rfl, iteT ?_⟩
    refine ⟨_, rfl, p, ns, m, rfl, hT.same s1, fun v H2 s2 => ⟨(by show 1 ≤ 1000; decide), fun c hc => ⟨c, v, rfl, upd_same, fun dx' hdx hne => ⟨rfl, dx', [(("ring" : Str), v)], upd_same, ?_, ?_, ?_⟩⟩⟩⟩
    · rw [upd_ne hne, upd_same]
    · rw [upd_ne hne] at hdx
      exact hdx
    · have hd1 : H2 dx' = none := by
        rw [upd_ne hne] at hdx
        exact hdx
      exact q dx' _ ((s1.trans s2).trans (same_raise hc hd1))
  · rw [hbad] at e
    cases e
def nSpread : List Str := ["table", "one", "other", "grid", "spots", "high", "low"]
theorem scSpread : FnScope nSpread ["table", "one", "other"] (defScope sSpread) := ⟨rfl, rfl, rfl, by decide +kernel, rfl, by decide +kernel, by decide +kernel⟩
def spSpread (K : PySem.W.Frag) (C CN CS CE : Addr) : Sp := fun vs H Q E => ∃ (p : Addr) (x y : V) (ns : List Str) (m : List (Pr × Bd)), vs = [.ref p, x, y] ∧ Tab K C H p ns m ∧
  ((∃ e, TwoS K H ns CN CS x y (some e) ∧ ∀ d H', Same H H' → H d = none → H' d = some (.xd [(e.2.1, e.2.2)]) → E (.ref e.1) (some d) H') ∨
    ∃ a b, x = .str a ∧ y = .str b ∧ a ∈ spots ns ∧ b ∈ spots ns ∧ a ≠ b ∧ shutM (ns.length + 1) (gridM ns m) = none ∧ ∀ d H', Same H H' → E (.ref CE) (some d) H')
theorem ok_spread {f fB fF C CN CS CE : Addr} {fd dB dF : FuncData} (F : Fun K "spread" "spread" sSpread f fd) (T : TxtT K mg C) (GB : FnOk P w K mg base (L2.CX P w) 3 fB dB ["self", "one", "other"] (spTBound K C CN CS)) (bB : Binds K dB ["self", "one", "other"] []) (hB : Meth K C "bound" fB)
    (gF : Got P w K mg base (L2.CX P w) 4 "filled_grid" ["table"] (spFilled K C CE) fF dF) : FnOk P w K mg base (L2.CX P w) 5 f fd ["table", "one", "other"] (spSpread K C CN CS CE) := by
  refine F.okX scSpread (fun vs H Q E h => ?_) (fun cdv A outer s H vs Q E hr h => ?_)
  · obtain ⟨p, x, y, ns, m, rfl, _⟩ := h
    rfl
  obtain ⟨p, x, y, ns, m, rfl, hT, h⟩ := h
  refine ⟨_, pss_cons (ps_expr (pe_meth (E := E) (pv 0) T.cl hB GB (hr.mono (by decide)) bB .nil (fun pins σ H s e s' I c => passAt (takes_of rfl rfl rfl rfl) σ pins H s e s' I c) (pa_cons (pv 1) (pa_cons (pv 2) pa_nil))))
    (pss_cons (ps_set (i := 3) scSpread.nd rfl (Or.inl rfl) (pe_callS gF.G hr rfl gF.m gF.k gF.b (fun σ => passAt (takes_of rfl rfl rfl rfl) σ) (pa_cons (pv 0) pa_nil))) pss_never), ?_⟩
  obtain ⟨_, dx, l, d, hp, hl, hd⟩ := id hT
  have nmB : (tf l d).lookup ("bound" : Str) = none := tf_no (by decide +kernel) (by decide +kernel)
  rcases h with ⟨e, h2, q1⟩ | ⟨a, b, rfl, rfl, ha, hb, hab, hbad, q1⟩
  · exact ⟨_, rfl, p, dx, _, rfl, hp, nmB, _, rfl, _, rfl, p, x, y, ns, m, some e, rfl, hT, h2, (fun z => nomatch z), fun e' he => by cases he; exact q1⟩
  · refine ⟨_, rfl, p, dx, _, rfl, hp, nmB, _, rfl, _, rfl, p, .str a, .str b, ns, m, none, rfl, hT, .good a b ha hb hab, (fun _ _ H1 s1 => ?_), fun e' he => nomatch he⟩
    exact ⟨_, rfl, p, ns, m, rfl, hT.same s1, hbad, fun d H' s' => q1 d H' (s1.trans s')⟩
end
end Rw
set_option Elab.async false
set_option linter.all false
set_option maxRecDepth 100000
set_option maxHeartbeats 4000000
namespace Rw
open PySem PySem.Spec PyProof.Rows L2
section
variable {K : Type} [DecidableEq K] {prog : Program} {w : World} {knd : HeapKind prog w K}
theorem meetsPop1 {d b : Addr} {k : K} (hd : (d == sysModules) = false) :
    MeetsIn prog w (Builtin.«dict.pop» ⟨[.ref d, .ref b], []⟩) (fun A R s => ∃ xs p, knd.room A.in1 ∧ knd.is s.heap k b ∧ s.heap.DictOfH knd d xs ∧ xs.length ≤ sizeLine ∧ atKey xs k = some p ∧
      ∀ h' tk, h'.DictOfH knd d (DT.dropH xs k) → Heap.SameBut d s.heap h' → R (.ok (.ret p.2)) { s with heap := h', toks := tk }) :=
  .of_wp fun A R s ⟨xs, p0, hu, hkey, hm, hsz, hp0, hsome⟩ => by
    obtain ⟨ob, en, ne, hob, hcl, hda, hen, hkn, hnd⟩ := id hm
    have ehp : (keyPart (Value.ref b)).isSome = false := rfl
    unfold Builtin.«dict.pop»
    apply wpAny_bind
    unfold Builtin.Dict.keyAndDefault
    refine wpAny_bind (wpAny_notOrdered_dict (hm.typeIs) (show wpAny _ _ (pure (d, Value.ref b, none)) _ _ s from wpAny_pure ?_))
    simp only [ehp, if_false, Bool.false_eq_true]
    refine wpAny_bind (wpAny_dictEntries hob hda (wpAny_bind (wpAny_pure ?_)))
    cases hem : en.isEmpty with
    | true =>
      have h0 : xs = [] := List.length_eq_zero_iff.mp (by rw [← size_of_entries hen]; simpa using hem)
      rw [h0] at hp0
      cases hp0
    | false =>
      simp only [if_false, Bool.false_eq_true]
      refine wpAny_bind (DT.takeH hu hkey hm hsz (fun hno => ?_) fun p e hp hev h' hm' hs' => ?_)
      · rw [hp0] at hno
        cases hno
      · simp only [Option.isNone_some, if_false, Bool.false_eq_true]
        rw [hp0] at hp
        cases hp
        exact wpAny_bind (wpAny_letGo (wpAny_pure ⟨e.val, rfl, by rw [hev]; exact hsome h' _ hm' hs'⟩))
end
section
variable {X : Cx}
def rPopT1 : V → List V → Hp → VK → Prop := fun x xs H Q => ∃ (a : Addr) (kvs : List (List L2.Key × V)) (k : List L2.Key) (b : Addr) (v : V), x = .ref a ∧ xs = [.ref b] ∧ H a = some (.dT kvs) ∧ H b = some (.tup (k.map kV)) ∧
  valV kvs k = some v ∧ Q v (upd H a (.dT (dropK kvs k)))
end
end Rw
namespace DT
open PySem PySem.W PySem.Calls PyProof.Rows PyProof.V PySem.Spec L2
variable {X : Cx}
theorem mt_popT1 (hu : X.A.units + 1 < cLine) : MtR X "dict.pop" Rw.rPopT1 := by
  intro pins s σ H x args v us Q I rx rargs h
  obtain ⟨a, kvs, k, b, d, rfl, rfl, ha, hb, hv, q⟩ := h
  cases rx
  obtain ⟨u1, rfl, r1⟩ := vals1 rargs
  cases r1
  obtain ⟨lz, hd, ys, rel, dd⟩ := dt_of I.hok ha
  have hz : ys.length ≤ sizeLine := (Paired.length rel) ▸ lz
  obtain ⟨p, hp, rp⟩ : ∃ p, atKey ys k = some p ∧ RelV d p.2 := by
    have r := rel.val k
    rw [hv] at r
    cases hp : atKey ys k with
    | none =>
      rw [hp] at r
      exact (show False from r).elim
    | some p =>
      rw [hp] at r
      exact ⟨p, rfl, r⟩
  refine call_meetsIn PySem.F.slot_dict_pop dd.typeIs PySem.F.entry_dict_pop (PySem.F.args_dict_pop_2 _ _) (Rw.meetsPop1 (knd := tupleKind (mixKind X.prog X.w)) (k := k) hd)
    ⟨ys, p, tupleKind_room_in1 hu, key_of I.hok hb, dd, hz, hp, fun h' tk dd' hs => ?_⟩
  obtain ⟨ob, es, ep, hq, h2, h3, h4, _, h5⟩ := dd'
  have Inew : Inv X pins σ (upd H a (.dT (dropK kvs k))) { s with heap := h', toks := tk } :=
    d_write I (by rw [ha]; exact True.intro) hs ⟨ob, hq⟩ ⟨Nat.le_trans (dropK_le kvs k) lz, hd, _, (L2.DX.KT_drop k rel).keeps (fun c ys ec => (by rw [upd_ne (ne_of ec ha (fun z => nomatch z))]; exact ec)), ob, es, ep, hq, h2, h3, h4, h5⟩
  show EP X pins σ Q p.2 _
  exact ⟨d, _, Inew, rp, q⟩
end DT
set_option Elab.async false
set_option linter.all false
set_option maxRecDepth 100000
set_option maxHeartbeats 4000000
namespace Rw
open PySem L2
abbrev sSame : Stmt := top 61
abbrev sLies : Stmt := top 64
theorem bool_beq (a b : Bool) : (Value.bool a == Value.bool b) = decide (a = b) := by
  by_cases e : a = b
  · subst e
    exact (beq_self_eq_true (Value.bool a)).trans (decide_eq_true (p := a = a) rfl).symm
  · exact (beq_eq_false_iff_ne.mpr fun z => e (Value.bool.inj z)).trans (decide_eq_false e).symm
theorem op_isB {X : Cx} : OpR X (compareOp .Is) (fun x y H Q => ∃ a b, x = .bl a ∧ y = .bl b ∧ Q (.bl (decide (a = b))) H) := by
  intro pins s σ H x y v u Q I rx ry h
  obtain ⟨a, b, rfl, rfl, q⟩ := h
  cases (show v = Value.bool a from rx)
  cases (show u = Value.bool b from ry)
  exact wpAny_is_plain rfl (fin_bl I q (bool_beq a b).symm)
section
variable {P : Program} {w : World} {K : PySem.W.Frag} {mg : Str → Option Value} {base : Heap}
def spSame : Sp := fun vs H Q _ => ∃ a b : Bool, vs = [.bl a, .bl b] ∧ Q (.bl (decide (a = b))) H
theorem scSame : FnScope ["_law_found", "_law_due"] ["_law_found", "_law_due"] (defScope sSame) := ⟨rfl, rfl, rfl, by decide +kernel, rfl, by decide +kernel, by decide +kernel⟩
theorem ok_same {f : Addr} {fd : FuncData} (F : Fun K "_law_same" "_law_same" sSame f fd) : FnOk P w K mg base CX0 1 f fd ["_law_found", "_law_due"] spSame := by
  refine F.ok scSame (fun vs H Q E h => ?_) (fun cdv A outer s H vs Q E hr h => ?_)
  · obtain ⟨a, b, rfl, _⟩ := h
    rfl
  obtain ⟨a, b, rfl, q⟩ := h
  refine ⟨_, pss_one (ps_ret (pe_ifExp (pt_val (pv 1)) (pe_cmpR op_isB (pv 0) pe_bl (nomark _)) (pe_cmpR op_isB (pv 0) pe_bl (nomark _)))), ?_⟩
  refine ⟨_, rfl, b, rfl, ?_⟩
  cases b with
  | true => exact (if_pos rfl).mpr ⟨_, rfl, _, _, rfl, rfl, q⟩
  | false => exact (if_neg (by decide)).mpr ⟨_, rfl, _, _, rfl, rfl, q⟩
end
end Rw
set_option Elab.async false
set_option linter.all false
set_option maxRecDepth 100000
set_option maxHeartbeats 4000000
namespace Rw
open PySem L2
/-- a bound as data -/
def bdN (b : Bd) : PyData := .tuple [.int b.1, .int b.2]
theorem bdN_shaped (b : Bd) : SeqAt.shaped (bdN b) = true := by
  unfold bdN SeqAt.shaped
  simp [PyData.canLay0, PyData.canLayAll0, PyData.depth, PyData.depthAll]
theorem bdN_eqv (b b' : Bd) : PyData.eqv (bdN b) (bdN b') = decide (b = b') := by
  unfold bdN
  simp only [PyData.eqv, PyData.eqvAll]
  rw [Bool.eq_iff_iff]
  simp only [Bool.and_eq_true, decide_eq_true_eq, beq_iff_eq, Bool.and_true]
  constructor
  · rintro ⟨h1, h2⟩
    exact Prod.ext h1 h2
  · rintro rfl
    exact ⟨rfl, rfl⟩
theorem RB.dp {K : PySem.W.Frag} {H : Hp} {v : V} {b : Bd} (h : RB H v b) : Dp K H v (bdN b) := by
  obtain ⟨t, rfl, ht⟩ := h
  exact .tup (SqT.of ht) (.cons (.int _) (.cons (.int _) .nil))
/-- whether what ways tell keeps all bounds -/
def liesB (o : Option (List (Pr × Bd))) (m : List (Pr × Bd)) : Bool := match o with
  | none => true
  | some mw => m.all fun e => match look mw e.1 with
    | none => false
    | some b => decide (codeB b ≤ codeB e.2)
section
variable {P : Program} {w : World} {K : PySem.W.Frag} {mg : Str → Option Value} {base : Heap}
def OptD (H : Hp) (v : V) (o : Option (List (Pr × Bd))) : Prop := (o = none ∧ v = .non) ∨ ∃ (r : Addr) (mw : List (Pr × Bd)), o = some mw ∧ v = .ref r ∧ DT RB H r mw ∧ Mk mw ∧ (mw.map (·.1)).Nodup ∧ mw.length ≤ 1000
def spLies (K : PySem.W.Frag) : Sp := fun vs H Q _ => ∃ (v : V) (d : Addr) (o : Option (List (Pr × Bd))) (m : List (Pr × Bd)), vs = [v, .ref d] ∧ OptD H v o ∧ v ≠ .ref d ∧ DT RB H d m ∧ (m.map (·.1)).Nodup ∧ Mk m ∧ m.length ≤ 1000 ∧ ∀ H', Same H H' → Q (.bl (liesB o m)) H'
def nLies : List Str := ["_law_ways_here", "_law_bounds", "_law_pair"]
theorem scLies : FnScope nLies ["_law_ways_here", "_law_bounds"] (defScope sLies) := ⟨rfl, rfl, rfl, by decide +kernel, rfl, by decide +kernel, by decide +kernel⟩
theorem ok_lies {f ft : Addr} {fd dt : FuncData} (F : Fun K "_law_lies" "_law_lies" sLies f fd) (gT : Got P w K mg base CX0 1 "_law_tight" ["_law_one_here", "_law_other_here"] (spTight K) ft dt) (ma : mg "all" = none) : FnOk P w K mg base CX0 2 f fd ["_law_ways_here", "_law_bounds"] (spLies K) := by
  refine F.ok scLies (fun vs H Q E h => ?_) (fun cdv A outer s H vs Q E hr h => ?_)
  · obtain ⟨v, d, o, m, rfl, _⟩ := h
    rfl
  obtain ⟨v, d, o, m, rfl, hO, hne, hD, hnd, hmk, hml, q⟩ := h
  have hu := hu_of hr
  have hu64 := Nat.lt_of_le_of_lt (Nat.add_le_add_left (by decide : 64 ≤ 64) _) hr.units
  refine ⟨_, pss_one (ps_ret (pe_or (pe_cmpR op_isN (pv 0) pe_non (nomark _)) (pe_one (pe_lock (pe_callB (cr_all rfl) rfl ma (by decide +kernel) (pa_cons
      (pe_lc (own := [("_law_pair", 2)]) (g := gName 2) (tt := tYes) rfl scLies.nd (pi_keys (pv 1)) (blkOk_by (N := nLies) (sc := defScope sLies) (by decide +kernel)) (fun _ _ _ _ _ => pg_name (i := 2) scLies.nd rfl (Or.inl rfl)) (fun _ _ _ _ _ => pts_nil)
        (te := tAndV (tDIn (tVar 2) (tVar 0)) (tOp (rEqD K) (tCall (spTight K) [] E0 (tCons (tDGet (tVar 0) (tVar 2)) (tCons (tDGet (tVar 1) (tVar 2)) tNil))) (tDGet (tVar 0) (tVar 2))))
        (fun _ _ _ _ _ => pe_and (pe_cmp (pc_din hu (pv 2) (pv 0))) (pe_one (pe_cmpR (op_eqD hu64) (pe_call gT.G hr rfl gT.m gT.k gT.b .nil pass0 (pa_cons (pe_dget hu (pv 0) (pv 2) (fun _ _ => rfl)) (pa_cons (pe_dget hu (pv 1) (pv 2) (fun _ _ => rfl)) pa_nil))) (pe_dget hu (pv 0) (pv 2) (fun _ _ => rfl)) (nomark _))))) pa_nil)))))), ?_⟩
  rcases hO with ⟨rfl, rfl⟩ | ⟨r, mw, rfl, rfl, hR, hmw, hnw, hlw⟩
  · exact ⟨_, rfl, rfl, true, rfl, iteT (q H (Same.refl H))⟩
  refine ⟨_, rfl, rfl, false, by rw [decide_eq_false (fun z : V.ref r = V.non => nomatch z)], iteF ?_⟩
  have hrd : r ≠ d := fun z => hne (by rw [z])
  obtain ⟨kvs, hd, hpr⟩ := id hD
  have hlk : m.length = kvs.length := Paired.length hpr
  refine ⟨d, .dT kvs, hd, True.intro, fun od => ?_⟩
  have lk0 : Lk H (upd H d (.frz od (.dT kvs))) d od (.dT kvs) := Lk.first
  refine ⟨_, rfl, d, od, rfl, .inr ⟨kvs, lk0.at', fun D hDn => ?_⟩⟩
  generalize upd H d (.frz od (.dT kvs)) = H1 at lk0 hDn
  refine lc_map (S := Same) walk_keysT (stp_same D) hDn (by omega) (ofL m fun _ => true) (fun j H y => ∃ e, m[j]? = some e ∧ y = .bl (match look mw e.1 with | none => false | some b => decide (codeB b ≤ codeB e.2))) ?_ ?_ ?_ ?_ ?_
  · intro j H2 H3 y s2 z
    exact z
  · intro j H2 y acc o hacc z
    exact z
  · intro H2 s2
    exact s2 _ _ lk0.at'
  · rintro j x H2 H3 acc N Z hj s2 hacc ⟨rfl, k, v, qa, hkv, rfl, hqa⟩ hyes hno
    obtain ⟨e, he, hek, hev⟩ := paired_at hpr hkv
    have hek : k = key2 e.1 := hek
    subst hek
    have hqa : IsPr H3 qa e.1 := hqa
    have hem : e ∈ m := List.mem_of_getElem? he
    rcases pl_look (R := fun v b => RB H v b) e.1 hpr with ⟨g1, _⟩ | ⟨b', v', g1, g2, g3⟩
    · exact absurd g1 (look_mem hem)
    rw [look_of hnd hem] at g1
    cases g1
    have lk := lk0.same s2
    have tup : ∀ a xs, H a = some (.tup xs) → H3 a = some (.tup xs) := fun a xs z => lk.keep _ _ z (ne_of z hd fun w => nomatch w)
    have gd : DGet H3 d (.ref qa) (some v') := .inr ⟨kvs, key2 e.1, qa, .inr ⟨od, lk.at'⟩, rfl, hqa, g2.symm⟩
    have hR3 : DT RB H3 r mw := hR.mono (fun o z => lk.keep _ _ z hrd) fun v b z => z.mono tup
    obtain ⟨kw, hkw, hpw⟩ := id hR3
    refine ⟨rfl, yes_ ?_⟩
    refine ⟨_, rfl, _, rfl, r, ?_⟩
    rcases pl_look (R := fun v b => RB H3 v b) e.1 hpw with ⟨g1, g4⟩ | ⟨b0, v0, g1, g4, g5⟩
    · refine ⟨none, rfl, .inr ⟨kw, key2 e.1, qa, .inl hkw, rfl, hqa, g4.symm⟩, false, rfl, iteF ?_⟩
      exact hyes (by rw [ofL_at he]) _ _ (Same.refl _) ⟨e, he, by rw [g1]⟩
    have gw : DGet H3 r (.ref qa) (some v0) := .inr ⟨kw, key2 e.1, qa, .inl hkw, rfl, hqa, g4.symm⟩
    refine ⟨some v0, rfl, gw, true, rfl, iteT ?_⟩
    refine ⟨_, rfl, _, rfl, r, _, rfl, gw, _, rfl, _, rfl, d, _, rfl, gd, v0, v', some (codeB b0), some (codeB e.2), rfl, RC.of g5 (hmw _ (look_in g1)), RC.of (g3.mono tup) (hmk _ hem), fun wv H4 s4 rc => ?_⟩
    have hqa4 := hqa.same s4
    have gw4 : DGet H4 r (.ref qa) (some v0) := .inr ⟨kw, key2 e.1, qa, .inl (s4 _ _ hkw), rfl, hqa4, g4.symm⟩
    refine ⟨_, rfl, _, rfl, r, _, rfl, gw4, ?_⟩
    have hb0 := hmw _ (look_in g1)
    have fin : ∀ c : Bd, RB H4 wv c → (decide (c = b0) = decide (codeB b0 ≤ codeB e.2)) → rEqD K wv v0 H4 N := fun c hc ec => by
      refine ⟨bdN c, bdN b0, hc.dp, (g5.same s4).dp, bdN_shaped _, bdN_shaped _, ?_⟩
      rw [bdN_eqv, ec]
      exact hyes (by rw [ofL_at he]) _ _ s4 ⟨e, he, by rw [g1]⟩
    by_cases lt : codeB b0 < codeB e.2
    · have et : tightC (some (codeB b0)) (some (codeB e.2)) = some (codeB b0) := if_pos lt
      rw [et] at rc
      rcases rc with ⟨z, _⟩ | ⟨k', ek', rb⟩
      · cases z
      cases ek'
      refine fin _ rb ?_
      rw [bound_code hb0, decide_eq_true rfl, decide_eq_true (Int.le_of_lt lt)]
    · have et : tightC (some (codeB b0)) (some (codeB e.2)) = some (codeB e.2) := if_neg lt
      rw [et] at rc
      rcases rc with ⟨z, _⟩ | ⟨k', ek', rb⟩
      · cases z
      cases ek'
      refine fin _ rb ?_
      rw [Bool.eq_iff_iff]
      simp only [decide_eq_true_eq]
      constructor
      · intro z
        have z2 := congrArg codeB z
        rw [code_bound] at z2
        omega
      · intro z
        have z2 : codeB e.2 = codeB b0 := by omega
        rw [z2, bound_code hb0]
  · intro ys H3 s3 e3 r3
    rw [← hlk] at r3
    have r4 : Paired (fun (e : Pr × Bd) y => y = V.bl (match look mw e.1 with | none => false | some b => decide (codeB b ≤ codeB e.2))) (m.filter fun _ => true) ys := chosen_whole (fun j c y hc ⟨e, he, z⟩ => by rw [hc] at he; cases he; exact z) r3
    rw [List.filter_eq_self.mpr fun _ _ => rfl] at r4
    have ey := paired_eq (f := fun e : Pr × Bd => V.bl (match look mw e.1 with | none => false | some b => decide (codeB b ≤ codeB e.2))) r4
    have lk := lk0.same s3
    refine ⟨D, m.map fun e => (match look mw e.1 with | none => false | some b => decide (codeB b ≤ codeB e.2)), rfl, SqL.of ?_, ?_⟩
    · rw [e3, ey, List.map_map]
      rfl
    · refine ⟨lk.at', ?_⟩
      have z := q _ (lk.back hd)
      unfold liesB at z
      rw [List.all_map]
      exact z
end
end Rw
set_option Elab.async false
set_option linter.all false
set_option maxRecDepth 100000
set_option maxHeartbeats 4000000
namespace Rw
open PySem L2
section
variable {β : Type}
def setM (m : List (Pr × β)) (q : Pr) (b : β) : List (Pr × β) := m.map fun e => if e.1 = q then (e.1, b) else e
theorem look_set {q : Pr} {b : β} {q' : Pr} : ∀ {m : List (Pr × β)}, look (setM m q b) q' = if q' = q then (look m q).map (fun _ => b) else look m q'
  | [] => by
    show (none : Option β) = _
    split <;> rfl
  | e :: m => by
    have ih := look_set (q := q) (b := b) (q' := q') (m := m)
    unfold setM at ih ⊢
    rw [List.map_cons]
    by_cases c : e.1 = q
    · rw [if_pos c]
      by_cases h : q' = q
      · subst h
        rw [if_pos rfl, look_pos (show ((e.1, b) : Pr × β).1 = q' from c), look_pos c]
        rfl
      · rw [if_neg h, look_neg (show ¬ ((e.1, b) : Pr × β).1 = q' from fun z => h (z.symm.trans c)), look_neg (fun z => h (z.symm.trans c)), ih, if_neg h]
    · rw [if_neg c]
      by_cases h : q' = q
      · subst h
        rw [if_pos rfl, look_neg c, ih, if_pos rfl, look_neg c]
      · rw [if_neg h]
        by_cases h2 : e.1 = q'
        · rw [look_pos h2, look_pos h2]
        · rw [look_neg h2, look_neg h2, ih, if_neg h]
theorem setM_keys {m : List (Pr × β)} {q : Pr} {b : β} : (setM m q b).map (·.1) = m.map (·.1) := by
  unfold setM
  rw [List.map_map]
  refine List.map_congr_left fun e _ => ?_
  show (if e.1 = q then (e.1, b) else e).1 = e.1
  split <;> rfl
theorem mem_setM {m : List (Pr × β)} {q : Pr} {b : β} {x : Pr × β} (h : x ∈ setM m q b) : x ∈ m ∨ (x.2 = b ∧ ∃ y ∈ m, y.1 = x.1) := by
  unfold setM at h
  obtain ⟨y, hy, rfl⟩ := List.mem_map.mp h
  split
  · exact .inr ⟨rfl, y, hy, rfl⟩
  · exact .inl hy
theorem DT.there {R : Hp → V → β → Prop} {H : Hp} {d a : Addr} {m : List (Pr × β)} {q : Pr} {v : V} {b : β} (h : DT R H d m) (ha : IsPr H a q) (hl : m.length < sizeLine) (hq : look m q ≠ none) (rv : R H v b) (st : ∀ o kvs v b, H d = some (.dT kvs) → R H v b → R (upd H d o) v b) :
    ∃ o, DPut H d (.ref a) v (upd H d o) ∧ DT R (upd H d o) d (setM m q b) := by
  obtain ⟨kvs, e, r⟩ := h
  have hz : kvs.length < sizeLine := by rw [← Paired.length r]; exact hl
  have hk : (valV kvs (key2 q)).isSome = true := by
    rcases pl_look (R := fun v b => R H v b) q r with ⟨h1, _⟩ | ⟨b', v', _, h2, _⟩
    · exact absurd h1 hq
    · rw [h2]; rfl
  refine ⟨.dT (putK kvs (key2 q) v), DPut.t e ha hz, ⟨putK kvs (key2 q) v, upd_same, ?_⟩⟩
  · have ep : putK kvs (key2 q) v = kvs.map fun kv => if kv.1 = key2 q then (kv.1, v) else kv := by
      unfold putK
      rw [if_pos (by rw [valV_any]; exact hk)]
    rw [ep]
    unfold setM
    have all : ∀ {m : List (Pr × β)} {kvs : List (List Key × V)}, Paired (fun e kv => kv.1 = key2 e.1 ∧ R (upd H d (.dT (putK kvs (key2 q) v))) kv.2 e.2) m kvs → True := fun _ => trivial
    have go : ∀ (o : HO) {m : List (Pr × β)} {ks : List (List Key × V)}, Paired (fun e kv => kv.1 = key2 e.1 ∧ R H kv.2 e.2) m ks → Paired (fun e kv => kv.1 = key2 e.1 ∧ R (upd H d o) kv.2 e.2) (m.map fun e => if e.1 = q then (e.1, b) else e) (ks.map fun kv => if kv.1 = key2 q then (kv.1, v) else kv) := by
      intro o m ks p
      induction p with
      | nil => exact .nil
      | @cons x y xs ys h t ih =>
        rw [List.map_cons, List.map_cons]
        refine .cons ?_ ih
        by_cases c : x.1 = q
        · rw [if_pos c, if_pos (by rw [h.1, c])]
          exact ⟨h.1, st _ _ _ _ e rv⟩
        · rw [if_neg c, if_neg fun z => c (key2_inj (h.1.symm.trans z))]
          exact ⟨h.1, st _ _ _ _ e h.2⟩
    have z := go (.dT (putK kvs (key2 q) v)) r
    rw [ep] at z
    exact z

/-- one key less -/
def lessM (m : List (Pr × β)) (q : Pr) : List (Pr × β) := m.filter fun e => decide (e.1 ≠ q)
theorem DT.less {R : Hp → V → β → Prop} {H : Hp} {d : Addr} {m : List (Pr × β)} {q : Pr} {kvs : List (List Key × V)} (e : H d = some (.dT kvs)) (r : Paired (fun e kv => kv.1 = key2 e.1 ∧ R H kv.2 e.2) m kvs) (st : ∀ o v b, R H v b → R (upd H d o) v b) :
    DT R (upd H d (.dT (dropK kvs (key2 q)))) d (lessM m q) := by
  refine ⟨_, upd_same, ?_⟩
  unfold lessM dropK
  have go : ∀ (o : HO) {m : List (Pr × β)} {ks : List (List Key × V)}, Paired (fun e kv => kv.1 = key2 e.1 ∧ R H kv.2 e.2) m ks → Paired (fun e kv => kv.1 = key2 e.1 ∧ R (upd H d o) kv.2 e.2) (m.filter fun e => decide (e.1 ≠ q)) (ks.filter fun kv => decide (kv.1 ≠ key2 q)) := by
    intro o m ks p
    induction p with
    | nil => exact .nil
    | @cons x y xs ys h t ih =>
      by_cases c : x.1 = q
      · rw [List.filter_cons_of_neg (by simp [c]), List.filter_cons_of_neg (by simp [h.1, c])]
        exact ih
      · rw [List.filter_cons_of_pos (by simpa using c), List.filter_cons_of_pos (by simpa using fun z => c (key2_inj (h.1.symm.trans z)))]
        exact .cons ⟨h.1, st _ _ _ h.2⟩ ih
  exact go _ r
theorem look_less {m : List (Pr × β)} {q q' : Pr} (h : q' ≠ q) : look (lessM m q) q' = look m q' := by
  unfold lessM
  induction m with
  | nil => rfl
  | cons e m ih =>
    by_cases c : e.1 = q
    · rw [List.filter_cons_of_neg (by simp [c]), look_neg fun z => h (z.symm.trans c)]
      exact ih
    · rw [List.filter_cons_of_pos (by simpa using c)]
      by_cases c2 : e.1 = q'
      · rw [look_pos c2, look_pos c2]
      · rw [look_neg c2, look_neg c2]
        exact ih
end
theorem GoodB.less {ns : List Str} {m : List (Pr × Bd)} {q : Pr} (h : GoodB ns m) : GoodB ns (lessM m q) := ⟨h.1.sublist ((List.filter_sublist (l := m)).map _), fun e he => h.2 e (List.mem_filter.mp he).1⟩
theorem GoodB.set {ns : List Str} {m : List (Pr × Bd)} {q : Pr} {b : Bd} (h : GoodB ns m) (hb : b.2 = 0 ∨ b.2 = 1) : GoodB ns (setM m q b) := ⟨by rw [setM_keys]; exact h.1, fun e he => by
  rcases mem_setM he with z | ⟨z, y, hy, ey⟩
  · exact h.2 e z
  · rw [z, ← ey]
    exact ⟨(h.2 y hy).1, trivial, trivial, hb⟩⟩
end Rw
set_option Elab.async false
set_option linter.all false
set_option maxRecDepth 100000
set_option maxHeartbeats 4000000
namespace Rw
open PySem L2
abbrev sOther : Stmt := top 63
def nOther : List Str := ["_law_pool_here", "_law_names_here", "_law_bounds", "_law_ways_here", "_law_found", "_law_way_here", "_law_pair", "_law_n", "_law_s"]
theorem scOther : FnScope nOther ["_law_pool_here", "_law_names_here", "_law_bounds", "_law_ways_here"] (defScope sOther) := ⟨rfl, rfl, rfl, by decide +kernel, rfl, by decide +kernel, by decide +kernel⟩
abbrev otherB : List Stmt := defBody sOther
theorem six_near {n s : Int} {a1 a2 a3 a4 a5 a6 : Addr} {H : Hp} {k : Nat} {v : V} (hs : s = 0 ∨ s = 1) (h1 : H a1 = some (.tup [.int (n + 1), .int s])) (h2 : H a2 = some (.tup [.int n, .int (1 - s)])) (h3 : H a3 = some (.tup [.int n, .int 0])) (h4 : H a4 = some (.tup [.int (n - 1), .int s])) (h5 : H a5 = some (.tup [.int (n + 2), .int 1])) (h6 : H a6 = some (.tup [.int n, .int s]))
    (h : [V.ref a1, V.ref a2, V.ref a3, V.ref a4, V.ref a5, V.ref a6][k]? = some v) : ∃ b : Bd, RB H v b ∧ (b.2 = 0 ∨ b.2 = 1) := by
  match k, h with
  | 0, h => cases h; exact ⟨(n + 1, s), ⟨a1, rfl, h1⟩, hs⟩
  | 1, h => cases h; exact ⟨(n, 1 - s), ⟨a2, rfl, h2⟩, by show 1 - s = 0 ∨ 1 - s = 1; omega⟩
  | 2, h => cases h; exact ⟨(n, 0), ⟨a3, rfl, h3⟩, .inl rfl⟩
  | 3, h => cases h; exact ⟨(n - 1, s), ⟨a4, rfl, h4⟩, hs⟩
  | 4, h => cases h; exact ⟨(n + 2, 1), ⟨a5, rfl, h5⟩, .inr rfl⟩
  | 5, h => cases h; exact ⟨(n, s), ⟨a6, rfl, h6⟩, hs⟩
  | k + 6, h => cases h
theorem paired_take {α β : Type} {F : α → β → Prop} : ∀ {k : Nat} {xs : List α} {ys : List β}, Paired F xs ys → Paired F (xs.take k) (ys.take k)
  | 0, _, _, _ => by rw [List.take_zero, List.take_zero]; exact .nil
  | k + 1, _, _, .nil => .nil
  | k + 1, _, _, .cons h t => .cons h (paired_take t)
theorem IsPr.but {H H' : Hp} {p a : Addr} {n : Nat} {q : Pr} (h : IsPr H a q) (hP : Pool H p n) (b : But p H H') : IsPr H' a q := by
  obtain ⟨xs, e⟩ := hP.some
  exact b _ _ h (ne_of h e fun z => nomatch z)
section
variable {P : Program} {w : World} {K : PySem.W.Frag} {mg : Str → Option Value} {base : Heap}
theorem rd_other {fl fK fM fO : Addr} {dK dM dO : FuncData} {cdv : Value} {A : Around} {outer : List Env} {s : Shared} {Hb : Hp} {E : XK}
    (gK : Got P w K mg base CX0 1 "_law_take" ["_law_pool_here", "_law_many"] spTake fK dK) (gM : Got P w K mg base CX0 2 "_law_mixed" ["_law_pool_here", "_law_things"] (spMixed K) fM dM) (gO : Got P w K mg base CX0 2 "_law_one" ["_law_pool_here", "_law_things"] (spOne K) fO dO)
    (mk : mg "list" = none) (hr : Room 3 (A.deeper (PyProof.Rows.envOfC "_law_other" (defScope sOther) s.heap.objs.size fl cdv))) :
    ∃ t, PSs (cxOf CX0 P w K mg base nOther "_law_other" (defScope sOther) fl cdv A outer s Hb E).nox (otherB.drop 4) t ∧
      ∀ (D : Ends) (H0 H : Hp) (p r : Addr) (u1 u2 u3 u5 u6 u7 u8 : Option V) (n : Nat) (ns : List Str) (m : List (Pr × Bd)), Pool H p n → n ≤ 900000 → H0 p = none ∨ True → r ≠ p → H0 r = none → But p H0 H → DT RB H r m → GoodB (spots ns) m → ns.length ≤ 4 →
        (∀ m' H', But p H0 H' → Pool H' p (n + 2000) → DT RB H' r m' → GoodB (spots ns) m' → D.rt (.ref r) H') → t D [some (.ref p), u1, u2, u3, some (.ref r), u5, u6, u7, u8] H := by
  have hu := hu_of hr
  refine ⟨_, pss_cons (ps_for PassesOwn.never rfl (pi_list (pe_slice sl_list (pe_call gM.G (hr.mono (by decide)) rfl gM.m gM.k gM.b .nil pass0 (pa_cons (pv 0) (pa_cons (pe_callTy (call_list_dT rfl) rfl mk PyProof.Rows.boot_list (pa_cons (pv 4) pa_nil)) pa_nil))) po_none
        (po_some (pe_call gK.G (hr.mono (by decide)) rfl gK.m gK.k gK.b .nil pass0 (pa_cons (pv 0) (pa_cons pe_int pa_nil)))))) (pg_name (i := 6) scOther.nd rfl (Or.inl rfl))
      (pss_cons (ps_asg (pe_dget hu (pv 4) (pv 6) (fun _ _ => rfl)) (pg_tup rfl (pgs_cons (pg_name (i := 7) scOther.nd rfl (Or.inl rfl)) (pgs_cons (pg_name (i := 8) scOther.nd rfl (Or.inl rfl)) pgs_nil))))
      (pss_one (ps_if (pt_cmpR op_eq (pe_call gK.G (hr.mono (by decide)) rfl gK.m gK.k gK.b .nil pass0 (pa_cons (pv 0) (pa_cons pe_int pa_nil))) pe_int (nomark _))
        (pss_one (ps_expr (pe_bm PySem.F.plainAttrs_dict PySem.F.slot_dict_pop PySem.F.type_dict_pop (DT.mt_popT1 hu) (pv 4) (pa_cons (pv 6) pa_nil))))
        (pss_one (ps_dput hu (pv 4) (pv 6) (pe_call gO.G (hr.mono (by decide)) rfl gO.m gO.k gO.b .nil pass0 (pa_cons (pv 0) (pa_cons (pe_lst
          (pa_cons (pe_tup (pa_cons (pe_op op_add (pv 7) pe_int) (pa_cons (pv 8) pa_nil))) (pa_cons (pe_tup (pa_cons (pv 7) (pa_cons (pe_op op_sub pe_int (pv 8)) pa_nil))) (pa_cons (pe_tup (pa_cons (pv 7) (pa_cons pe_int pa_nil)))
          (pa_cons (pe_tup (pa_cons (pe_op op_sub (pv 7) pe_int) (pa_cons (pv 8) pa_nil))) (pa_cons (pe_tup (pa_cons (pe_op op_add (pv 7) pe_int) (pa_cons pe_int pa_nil))) (pa_cons (pe_tup (pa_cons (pv 7) (pa_cons (pv 8) pa_nil))) pa_nil))))))) pa_nil))) rfl))))))
    (pss_one (ps_ret (pv 4))), ?_⟩
  intro D H0 H p r u1 u2 u3 u5 u6 u7 u8 n ns m hP hn _ hrp hr0 b0 hD hg h4 q
  have fewm := hg.few (by show ns.length + 1 ≤ 8; omega)
  obtain ⟨kvs, hd, hpr⟩ := id hD
  -- the keys, mixed
  refine ⟨_, rfl, _, rfl, r, kvs, rfl, .inl hd, fun l bs hl hbs => ?_⟩
  have hbs : Paired (fun (p : List Key × V) b => H b = some (.tup (p.1.map kV))) kvs bs := hbs
  have tl := keys_paired (R := fun v b => RB H v b) hpr hbs
  have lb : bs.length = m.length := (Paired.length tl).symm
  have s1 := same_new hl (.lst (bs.map V.ref))
  have hP1 := hP.new (o := .lst (bs.map V.ref)) hl
  have hlp : l ≠ p := hP.apart hl
  refine ⟨p, l, bs.map V.ref, n, rfl, hP1, by rw [List.length_map]; omega, .inl (SqL.of upd_same), hlp, by rw [List.length_map]; omega, fun ys r2 H2 pm hr2 b2 hP2 er2 => ?_⟩
  rw [List.length_map] at hP2
  obtain ⟨cs, hcs, rfl⟩ := perm_map_inv pm
  obtain ⟨qs, hqs, tl2⟩ := perm_paired hcs tl
  have b12 : But p H H2 := (But.of s1).trans b2
  have tk2 := b12.tk hP
  have tl3 : Paired (fun e a => IsPr H2 a e.1) qs cs := Rw.Paired.imp tl2 fun e a _ h => tk2 _ _ h
  have hr2p : r2 ≠ p := hP1.apart hr2
  have hD2 : DT RB H2 r m := hD.but hP b12
  -- some of them
  refine ⟨_, rfl, p, 3, _, rfl, hP2, by omega, by decide, by decide, fun dd o d0 d1 hP3 => ⟨dd, rfl, r2, _, rfl, SqL.of (by rw [upd_ne hr2p]; exact er2), fun sm hsm => ?_⟩⟩
  obtain ⟨k, ek⟩ : ∃ k, cutV (cs.map V.ref) none (some dd) = (cs.take k).map V.ref := ⟨HT.sIx (cs.map V.ref).length (cs.map V.ref).length (some dd) - 0, by
    rw [List.map_take]
    rfl⟩
  rw [ek]
  have b3 : But p H2 (upd (upd H2 p o) sm (.lst ((cs.take k).map V.ref))) := (but_upd (o := o)).new hsm
  have hsp : sm ≠ p := hP3.apart hsm
  have hP4 : Pool (upd (upd H2 p o) sm (.lst ((cs.take k).map V.ref))) p (n + bs.length + 1) := hP3.new hsm
  have e4 : (upd (upd H2 p o) sm (.lst ((cs.take k).map V.ref))) sm = some (.lst ((cs.take k).map V.ref)) := upd_same
  generalize upd (upd H2 p o) sm (.lst ((cs.take k).map V.ref)) = H4 at b3 hP4 e4
  clear hsm hP3
  have tk4 := b3.tk hP2
  have tl4 : Paired (fun e a => IsPr H4 a e.1) (qs.take k) (cs.take k) := paired_take (Rw.Paired.imp tl3 fun e a _ h => tk4 _ _ h)
  have hD4 : DT RB H4 r m := hD2.but hP2 b3
  have b04 : But p H0 H4 := (b0.trans b12).trans b3
  have hql : qs.length = m.length := hqs.length_eq
  have hcl : cs.length = qs.length := (Paired.length tl3).symm
  have qnd : (qs.map (·.1)).Nodup := (hqs.map (·.1)).nodup_iff.mpr hg.1
  have ltk : (cs.take k).length ≤ 64 := by rw [List.length_take]; omega
  obtain ⟨kv4, hd4, _⟩ := id hD4
  have hsr : sm ≠ r := ne_of e4 hd4 fun z => nomatch z
  refine ⟨sm, rfl, ⟨_, SqL.of e4⟩, for_list (xs := (cs.take k).map V.ref) (fun i σ' H' => ∃ (u6 u7 u8 : Option V) (m' : List (Pr × Bd)), σ' = [some (.ref p), u1, u2, u3, some (.ref r), u5, u6, u7, u8] ∧ But2 p r H4 H' ∧ Pool H' p (n + bs.length + 1 + 2 * i) ∧ DT RB H' r m' ∧ GoodB (spots ns) m' ∧ ∀ e ∈ (qs.take k).drop i, look m' e.1 ≠ none) ?_ ?_ ?_ ?_⟩
  · refine ⟨_, _, _, m, rfl, .refl, hP4, hD4, hg, fun e he z => ?_⟩
    have hem : e ∈ m := hqs.mem_iff.mp (List.mem_of_mem_take (List.mem_of_mem_drop he))
    rw [look_of hg.1 hem] at z
    cases z
  · rintro i σ' H' _ ⟨u6, u7, u8, m', rfl, hB, _⟩
    exact SqL.of (hB _ _ e4 hsp hsr)
  · rintro i x σ' H' hx ⟨u6, u7, u8, m', rfl, hB, hPi, hDi, hgi, hlk⟩
    obtain ⟨a, ha, rfl⟩ := at_map hx
    obtain ⟨e, he, hia⟩ := paired_at tl4 ha
    have hil : i < (cs.take k).length := (List.getElem?_eq_some_iff.mp ha).1
    obtain ⟨pxs, hp4⟩ := hP4.some
    have keepT : ∀ a xs, H4 a = some (.tup xs) → H' a = some (.tup xs) := fun a xs z => hB _ _ z (ne_of z hp4 fun z => nomatch z) (ne_of z hd4 fun z => nomatch z)
    have hia' : IsPr H' a e.1 := keepT _ _ hia
    have hdrop : (qs.take k).drop i = e :: (qs.take k).drop (i + 1) := by
      have hq : i < (qs.take k).length := (List.getElem?_eq_some_iff.mp he).1
      rw [List.drop_eq_getElem_cons hq, (List.getElem?_eq_some_iff.mp he).2]
    have hle := hlk e (by rw [hdrop]; exact List.mem_cons_self)
    have rest : ∀ e' ∈ (qs.take k).drop (i + 1), look m' e'.1 ≠ none ∧ e'.1 ≠ e.1 := fun e' he' => by
      refine ⟨hlk e' (by rw [hdrop]; exact List.mem_cons_of_mem _ he'), fun z => ?_⟩
      have nd : (((qs.take k).drop i).map (·.1)).Nodup := qnd.sublist (((List.drop_sublist i _).trans (List.take_sublist k _)).map _)
      rw [hdrop, List.map_cons] at nd
      exact (List.nodup_cons.mp nd).1 (List.mem_map.mpr ⟨e', he', z⟩)
    obtain ⟨kvi, hdi, hpi⟩ := id hDi
    rcases pl_look (R := fun v b => RB H' v b) e.1 hpi with ⟨g1, _⟩ | ⟨b, v, g1, g2, g3⟩
    · exact absurd g1 hle
    have gd : DGet H' r (.ref a) (some v) := .inr ⟨kvi, key2 e.1, a, .inl hdi, rfl, hia', g2.symm⟩
    obtain ⟨t, rfl, ht⟩ := id g3
    have hb : b.2 = 0 ∨ b.2 = 1 := hgi.mk _ (look_in g1)
    refine ⟨_, rfl, _, rfl, r, _, rfl, gd, t, _, rfl, SqT.of ht, rfl, _, _, rfl, _, _, rfl, rfl, ?_⟩
    refine ⟨_, rfl, p, 4, _, rfl, hPi, by omega, by decide, by decide, fun z o5 z0 z1 hP5 => ⟨rfl, _, rfl, ?_⟩⟩
    have hrp' : ∀ {o : HO}, (upd H' p o) r = some (.dT kvi) := fun {o} => by rw [upd_ne hrp]; exact hdi
    have hD5 : DT RB (upd H' p o5) r m' := hDi.but hPi but_upd
    have hia5 : IsPr (upd H' p o5) a e.1 := hia'.but hPi but_upd
    have bB5 : But2 p r H4 (upd H' p o5) := hB.trans (But2.of but_upd)
    refine ite2 (fun _ => ?_) (fun _ => ?_)
    · obtain ⟨kv5, e5, pr5⟩ := hD5
      have ek5 : kv5 = kvi := by
        rw [hrp'] at e5
        cases e5
        rfl
      subst ek5
      refine ⟨_, rfl, .inr (.inr (.inl ⟨rfl, .inr ⟨_, hrp'⟩⟩)), _, rfl, r, kv5, key2 e.1, a, .ref t, rfl, rfl, hrp', hia5, g2, ?_⟩
      refine ⟨_, _, _, lessM m' e.1, rfl, bB5.put, (hP5.ne hrp).mono (by omega), DT.less e5 pr5 (fun o v b h => RB.putL e5 (fun _ z => nomatch z) h), hgi.less, fun e' he' => ?_⟩
      rw [look_less (rest e' he').2]
      exact (rest e' he').1
    · generalize upd H' p o5 = H5 at hP5 hrp' hD5 hia5 bB5
      refine ⟨_, rfl, _, rfl, _, _, rfl, rfl, _, rfl, (by show 2 ≤ sizeLine; decide), fun a1 h1 => ⟨_, rfl, _, rfl, _, _, rfl, rfl, (by show 2 ≤ sizeLine; decide), fun a2 h2 => ⟨_, rfl, (by show 2 ≤ sizeLine; decide), fun a3 h3 => ⟨_, rfl, _, _, rfl, rfl, _, rfl, (by show 2 ≤ sizeLine; decide), fun a4 h4 => ⟨_, rfl, _, _, rfl, rfl, (by show 2 ≤ sizeLine; decide), fun a5 h5 => ⟨_, rfl, _, rfl, (by show 2 ≤ sizeLine; decide), fun a6 h6 => ⟨(by show 6 ≤ sizeLine; decide), fun a7 h7 => ?_⟩⟩⟩⟩⟩⟩⟩
      dsimp only at h2 h3 h4 h5 h6 h7 ⊢
      have s1 := same_new h1 (.tup [.int (b.1 + 1), .int b.2])
      have c1 : upd H5 a1 (.tup [.int (b.1 + 1), .int b.2]) a1 = some (.tup [.int (b.1 + 1), .int b.2]) := upd_same
      generalize upd H5 a1 (.tup [.int (b.1 + 1), .int b.2]) = I1 at s1 c1 h2 h3 h4 h5 h6 h7 ⊢
      have s2 := same_new h2 (.tup [.int b.1, .int (1 - b.2)])
      have c2 : upd I1 a2 (.tup [.int b.1, .int (1 - b.2)]) a2 = some (.tup [.int b.1, .int (1 - b.2)]) := upd_same
      generalize upd I1 a2 (.tup [.int b.1, .int (1 - b.2)]) = I2 at s2 c2 h3 h4 h5 h6 h7 ⊢
      have s3 := same_new h3 (.tup [.int b.1, .int 0])
      have c3 : upd I2 a3 (.tup [.int b.1, .int 0]) a3 = some (.tup [.int b.1, .int 0]) := upd_same
      generalize upd I2 a3 (.tup [.int b.1, .int 0]) = I3 at s3 c3 h4 h5 h6 h7 ⊢
      have s4 := same_new h4 (.tup [.int (b.1 - 1), .int b.2])
      have c4 : upd I3 a4 (.tup [.int (b.1 - 1), .int b.2]) a4 = some (.tup [.int (b.1 - 1), .int b.2]) := upd_same
      generalize upd I3 a4 (.tup [.int (b.1 - 1), .int b.2]) = I4 at s4 c4 h5 h6 h7 ⊢
      have s5 := same_new h5 (.tup [.int (b.1 + 2), .int 1])
      have c5 : upd I4 a5 (.tup [.int (b.1 + 2), .int 1]) a5 = some (.tup [.int (b.1 + 2), .int 1]) := upd_same
      generalize upd I4 a5 (.tup [.int (b.1 + 2), .int 1]) = I5 at s5 c5 h6 h7 ⊢
      have s6 := same_new h6 (.tup [.int b.1, .int b.2])
      have c6 : upd I5 a6 (.tup [.int b.1, .int b.2]) a6 = some (.tup [.int b.1, .int b.2]) := upd_same
      generalize upd I5 a6 (.tup [.int b.1, .int b.2]) = I6 at s6 c6 h7 ⊢
      have s7 := same_new h7 (.lst [.ref a1, .ref a2, .ref a3, .ref a4, .ref a5, .ref a6])
      have c7 : upd I6 a7 (.lst [.ref a1, .ref a2, .ref a3, .ref a4, .ref a5, .ref a6]) a7 = some (.lst [.ref a1, .ref a2, .ref a3, .ref a4, .ref a5, .ref a6]) := upd_same
      have s07 := s1.trans (s2.trans (s3.trans (s4.trans (s5.trans (s6.trans s7)))))
      have n7 : a7 ≠ p := (hP5.same (s1.trans (s2.trans (s3.trans (s4.trans (s5.trans s6)))))).apart h7
      have d1 := (s2.trans (s3.trans (s4.trans (s5.trans (s6.trans s7))))) _ _ c1
      have d2 := (s3.trans (s4.trans (s5.trans (s6.trans s7)))) _ _ c2
      have d3 := (s4.trans (s5.trans (s6.trans s7))) _ _ c3
      have d4 := (s5.trans (s6.trans s7)) _ _ c4
      have d5 := (s6.trans s7) _ _ c5
      have d6 := s7 _ _ c6
      generalize upd I6 a7 (.lst [.ref a1, .ref a2, .ref a3, .ref a4, .ref a5, .ref a6]) = I7 at s07 c7 d1 d2 d3 d4 d5 d6 ⊢
      have hP7 := hP5.same s07
      refine ⟨p, a7, _, _, rfl, hP7, by omega, .inl (SqL.of c7), n7, Nat.succ_pos _, (by show 6 ≤ 10000; decide), fun i' v' o6 hv' hP8 => ?_⟩
      obtain ⟨px7, hp7⟩ := hP7.some
      have kt : ∀ {a : Addr} {xs : List V}, I7 a = some (.tup xs) → upd I7 p o6 a = some (.tup xs) := fun h => by rw [upd_ne (ne_of h hp7 fun z => nomatch z)]; exact h
      obtain ⟨b', hb', hbm⟩ := six_near hb (kt d1) (kt d2) (kt d3) (kt d4) (kt d5) (kt d6) hv'
      have hD8 : DT RB (upd I7 p o6) r m' := (hD5.mono (fun o z => s07 _ _ z) fun v b z => z.mono fun a xs y => s07 _ _ y).but hP7 but_upd
      have hia8 : IsPr (upd I7 p o6) a e.1 := IsPr.but (s07 _ _ hia5) hP7 but_upd
      have b8 : But2 p r H4 (upd I7 p o6) := (bB5.trans (But2.same s07)).trans (But2.of but_upd)
      generalize upd I7 p o6 = I8 at hP8 hb' hD8 hia8 b8
      obtain ⟨o9, dp, hD9⟩ := hD8.there hia8 (small1000 (by have := hgi.few (by show ns.length + 1 ≤ 8; omega); omega)) hle hb' (fun o kvs v b e h => RB.putL e (fun _ z => nomatch z) h)
      refine ⟨_, rfl, _, rfl, r, _, rfl, dp, _, _, _, setM m' e.1 b', rfl, b8.put, (hP8.ne hrp).mono (by omega), hD9, hgi.set hbm, fun e' he' => ?_⟩
      rw [look_set, if_neg (rest e' he').2]
      exact (rest e' he').1
  · rintro σ' H' ⟨u6, u7, u8, m', rfl, hB, hPi, hDi, hgi, _⟩
    rw [List.length_map] at hPi
    refine ⟨_, rfl, q m' H' (fun b o h hbp => ?_) (hPi.mono (by omega)) hDi hgi⟩
    exact hB b o (b04 b o h hbp) hbp (ne_of_none h hr0)
end
end Rw
set_option Elab.async false
set_option linter.all false
set_option maxRecDepth 100000
set_option maxHeartbeats 4000000
namespace Rw
open PySem L2
section
variable {P : Program} {w : World} {K : PySem.W.Frag} {mg : Str → Option Value} {base : Heap}
def spOther (K : PySem.W.Frag) : Sp := fun vs H Q _ => ∃ (pl l d : Addr) (v : V) (n : Nat) (ns : List Str) (m : List (Pr × Bd)) (o : Option (List (Pr × Bd))), vs = [.ref pl, .ref l, .ref d, v] ∧ Pool H pl n ∧ n ≤ 800000 ∧ H l = some (.lst (ns.map V.str)) ∧ Drawn ns ∧ ns.length ≤ 4 ∧ DT RB H d m ∧ GoodB (spots ns) m ∧ OptD H v o ∧ (∀ mw, o = some mw → GoodB (spots ns) mw) ∧
  ∀ (r : Addr) (H' : Hp) (m' : List (Pr × Bd)), H r = none → But pl H H' → Pool H' pl (n + 3000) → DT RB H' r m' → GoodB (spots ns) m' → Q (.ref r) H'
theorem OptD.but {pl : Addr} {n : Nat} {v : V} {o : Option (List (Pr × Bd))} {H H' : Hp} (h : OptD H v o) (hP : Pool H pl n) (b : But pl H H') : OptD H' v o := h.imp id fun ⟨r, mw, e1, e2, hD, z⟩ => ⟨r, mw, e1, e2, hD.but hP b, z⟩
theorem OptD.same {v : V} {o : Option (List (Pr × Bd))} {H H' : Hp} (h : OptD H v o) (s : Same H H') : OptD H' v o := h.imp id fun ⟨r, mw, e1, e2, hD, z⟩ => ⟨r, mw, e1, e2, hD.sameB s, z⟩
theorem ok_other {f fK fD fM fO : Addr} {fd dK dD dM dO : FuncData} (F : Fun K "_law_other" "_law_other" sOther f fd) (gK : Got P w K mg base CX0 1 "_law_take" ["_law_pool_here", "_law_many"] spTake fK dK) (gD : Got P w K mg base CX0 3 "_law_drawn" ["_law_pool_here", "_law_names_here"] (spDrawn K) fD dD)
    (gM : Got P w K mg base CX0 2 "_law_mixed" ["_law_pool_here", "_law_things"] (spMixed K) fM dM) (gO : Got P w K mg base CX0 2 "_law_one" ["_law_pool_here", "_law_things"] (spOne K) fO dO) (mk : mg "list" = none) (md : mg "dict" = none) :
    FnOk P w K mg base CX0 4 f fd ["_law_pool_here", "_law_names_here", "_law_bounds", "_law_ways_here"] (spOther K) := by
  refine F.ok scOther (fun vs H Q E h => ?_) (fun cdv A outer s H vs Q E hr h => ?_)
  · obtain ⟨pl, l, d, v, n, ns, m, o, rfl, _⟩ := h
    rfl
  obtain ⟨pl, l, d, v, n, ns, m, o, rfl, hP, hn, hl, hdn, h4, hD, hg, hO, hOg, q⟩ := h
  have hu := hu_of hr
  have hu2 := Nat.lt_of_le_of_lt (Nat.add_le_add_left (by decide : 2 ≤ 64) _) hr.units
  obtain ⟨t4, p4, rT⟩ := rd_other (fl := f) (cdv := cdv) (A := A) (outer := outer) (s := s) (Hb := H) (E := E) gK gM gO mk hr
  refine ⟨_, PSs.nox (pss_cons (ps_set (i := 4) scOther.nd rfl (Or.inl rfl) (pe_lock (pe_callTy (call_dictT rfl hu2) rfl md PyProof.Rows.boot_dict (pa_cons
      (pe_lc (own := [("_law_pair", 6)]) (g := gName 6) (tt := tYes) rfl scOther.nd (pi_keys (pv 2)) (blkOk_by (N := nOther) (sc := defScope sOther) (by decide +kernel)) (fun _ _ _ _ _ => pg_name (i := 6) scOther.nd rfl (Or.inl rfl))
        (fun _ _ _ _ _ => pts_nil) (fun _ _ _ _ _ => pe_tup (pa_cons (pv 6) (pa_cons (pe_dget hu (pv 2) (pv 6) (fun _ _ => rfl)) pa_nil)))) pa_nil))))
    (pss_cons (ps_set (i := 5) scOther.nd rfl (Or.inl rfl) (pe_call gK.G (hr.mono (by decide)) rfl gK.m gK.k gK.b .nil pass0 (pa_cons (pv 0) (pa_cons pe_int pa_nil))))
    (pss_cons (ps_if (pt_cmpR op_eq (pv 5) pe_int (nomark _)) (pss_one (ps_ret (pe_call gD.G (hr.mono (by decide)) rfl gD.m gD.k gD.b .nil pass0 (pa_cons (pv 0) (pa_cons (pv 1) pa_nil))))) pss_nil)
    (pss_cons (ps_if (PW.pt (pw_and (pt_cmpR op_lt (pv 5) pe_int (nomark _)) (pw_and1 (pt_cmpR op_notN (pv 3) pe_non (nomark _))))) (pss_one (ps_set (i := 4) scOther.nd rfl (Or.inl rfl) (pe_lock (pe_callTy (call_dictT rfl hu2) rfl md PyProof.Rows.boot_dict (pa_cons
      (pe_lc (own := [("_law_pair", 6)]) (g := gName 6) (tt := tYes) rfl scOther.nd (pi_keys (pv 3)) (blkOk_by (N := nOther) (sc := defScope sOther) (by decide +kernel)) (fun _ _ _ _ _ => pg_name (i := 6) scOther.nd rfl (Or.inl rfl))
        (fun _ _ _ _ _ => pts_nil) (fun _ _ _ _ _ => pe_tup (pa_cons (pv 6) (pa_cons (pe_dget hu (pv 3) (pv 6) (fun _ _ => rfl)) pa_nil)))) pa_nil))))) pss_nil) p4)))), ?_⟩
  have hnd := hg.1
  have fewm : m.length ≤ 64 := hg.few (by show ns.length + 1 ≤ 8; omega)
  obtain ⟨kvs, hd, hpr⟩ := id hD
  have hlk : m.length = kvs.length := Paired.length hpr
  refine ⟨d, .dT kvs, hd, True.intro, fun od => ?_⟩
  have lk0 : Lk H (upd H d (.frz od (.dT kvs))) d od (.dT kvs) := Lk.first
  refine ⟨_, rfl, d, od, rfl, .inr ⟨kvs, lk0.at', fun D hDn => ?_⟩⟩
  generalize upd H d (.frz od (.dT kvs)) = H1 at lk0 hDn
  refine lc_map (S := Same) walk_keysT (stp_same D) hDn (by omega) (ofL m fun _ => true) (fun j H y => ∃ r, y = .ref r ∧ ∃ e, m[j]? = some e ∧ ∃ qa v, H r = some (.tup [.ref qa, v]) ∧ IsPr H qa e.1 ∧ RB H v e.2) ?_ ?_ ?_ ?_ ?_
  · rintro j H2 H3 y s2 ⟨r, rfl, e, he, qa, v, h1, h2, h3⟩
    exact ⟨r, rfl, e, he, qa, v, s2 _ _ h1, h2.same s2, h3.mono fun a xs e => s2 _ _ e⟩
  · rintro j H2 y acc o hacc ⟨r, rfl, e, he, qa, v, h1, h2, h3⟩
    refine ⟨r, rfl, e, he, qa, v, ?_, ?_, RB.putL hacc (fun _ z => nomatch z) h3⟩
    · rw [upd_ne (ne_of h1 hacc fun z => nomatch z)]
      exact h1
    · unfold IsPr at h2 ⊢
      rw [upd_ne (ne_of h2 hacc fun z => nomatch z)]
      exact h2
  · intro H2 s2
    exact s2 _ _ lk0.at'
  · rintro j x H2 H3 acc N Z hj s2 hacc ⟨rfl, k, v, qa, hkv, rfl, hqa⟩ hyes hno
    obtain ⟨e, he, hek, hev⟩ := paired_at hpr hkv
    have hek : k = key2 e.1 := hek
    subst hek
    have hqa : IsPr H3 qa e.1 := hqa
    have hem : e ∈ m := List.mem_of_getElem? he
    rcases pl_look (R := fun v b => RB H v b) e.1 hpr with ⟨g1, _⟩ | ⟨b, v', g1, g2, g3⟩
    · exact absurd g1 (look_mem hem)
    rw [look_of hnd hem] at g1
    cases g1
    have lk := lk0.same s2
    have gd : DGet H3 d (.ref qa) (some v') := .inr ⟨kvs, key2 e.1, qa, .inr ⟨od, lk.at'⟩, rfl, hqa, g2.symm⟩
    obtain ⟨t, rfl, ht⟩ := g3
    have ht3 : H3 t = some (.tup [.int e.2.1, .int e.2.2]) := lk.keep _ _ ht (ne_of ht hd fun z => nomatch z)
    refine ⟨rfl, iteT (B := Z H3) ?_⟩
    refine ⟨_, rfl, _, rfl, _, rfl, d, _, rfl, gd, (by show 2 ≤ sizeLine; decide), fun r2 hr2 => ?_⟩
    have s4 := same_new hr2 (.tup [.ref qa, .ref t])
    exact hyes (by rw [ofL_at he]) _ _ s4 ⟨r2, rfl, e, he, qa, _, upd_same, hqa.same s4, t, rfl, s4 _ _ ht3⟩
  · intro ys H3 s3 e3 r3
    rw [← hlk] at r3
    have r4 : Paired (fun e y => ∃ r, y = .ref r ∧ ∃ qa v, H3 r = some (.tup [.ref qa, v]) ∧ IsPr H3 qa e.1 ∧ RB H3 v e.2) (m.filter fun _ => true) ys := chosen_whole (fun j c y hc ⟨r, hr, e, he, z⟩ => ⟨r, hr, by rw [hc] at he; cases he; exact z⟩) r3
    rw [List.filter_eq_self.mpr fun _ _ => rfl] at r4
    obtain ⟨ps, rfl, r5⟩ := paired_refs r4
    obtain ⟨kv2, g1, g2, g3⟩ := pairs_kvs (R := fun v b => RB H3 v b) r5
    refine ⟨D, ps, kv2, rfl, SqL.of e3, g1, by rw [g3]; exact keys_nd hnd, fun r hp => ?_⟩
    have lk := (lk0.same s3).new hp (o := .dT kv2)
    have hpd : r ≠ d := (ne_of_none (lk0.same s3).at' hp).symm
    refine ⟨lk.at', ?_⟩
    have hp0 : H r = none := by
      cases e : H r with
      | none => rfl
      | some o =>
        have z := (lk0.same s3).keep r o e hpd
        rw [hp] at z
        cases z
    have sB := lk.back hd
    have hP4 : DT RB (upd (upd H3 r (.dT kv2)) d (.dT kvs)) r m := ⟨kv2, by rw [upd_ne hpd]; exact upd_same, Rw.Paired.imp g2 fun e kv _ h => ⟨h.1, RB.putL lk.at' (fun _ z => nomatch z) (h.2.mono fun a xs e => same_new hp (.dT kv2) _ _ e)⟩⟩
    generalize upd (upd H3 r (.dT kv2)) d (.dT kvs) = Ha at sB hP4

    -- which way
    have hPa := hP.same sB
    refine ⟨_, rfl, pl, 5, _, rfl, hPa, by omega, by decide, by decide, fun z o1 z0 z1 hPc => ?_⟩
    have rpl : r ≠ pl := by
      obtain ⟨x, y⟩ := hP.some
      exact (ne_of_none y hp0).symm
    have bc : But pl H (upd Ha pl o1) := (But.of sB).put
    have hRc : DT RB (upd Ha pl o1) r m := hP4.but hPa but_upd
    have hOc : OptD (upd Ha pl o1) v o := (hO.same sB).but hPa but_upd
    have hlc : (upd Ha pl o1) l = some (.lst (ns.map V.str)) := bc _ _ hl (lst_apart hl hP)
    generalize upd Ha pl o1 = Hc at hPc bc hRc hOc hlc
    clear lk hp e3 r3 r4 r5 g1 g2 g3 lk0 s3 hDn
    refine ⟨_, rfl, rfl, _, rfl, ?_⟩
    refine ite2 (fun _ => ?_) (fun _ => ?_)
    · refine ⟨_, rfl, _, rfl, pl, l, ns, _, rfl, hPc, by omega, SqL.of hlc, lst_apart hlc hPc, hdn.few, hdn.nd, fun m' d' H' hg' hd' b' hP' hD' => ?_⟩
      refine q d' H' m' ?_ (bc.trans b') (hP'.mono (by omega)) hD' hg'
      cases e : H d' with
      | none => rfl
      | some u =>
        exfalso
        by_cases c : d' = pl
        · obtain ⟨x, y⟩ := hPc.some
          rw [c, y] at hd'
          cases hd'
        · rw [bc _ _ e c] at hd'
          cases hd'
    have tail := fun (D : Ends) (hDq : ∀ v H', Q v H' → D.rt v H') (u5 u6 u7 u8 : Option V) => rT D H Hc pl r (some (.ref l)) (some (.ref d)) (some v) u5 u6 u7 u8 (n + 1) ns m hPc (by omega) (.inr trivial) rpl hp0 bc hRc hg h4 (fun m' H' b' hP' hD' hg' => hDq _ _ (q r H' m' hp0 b' (hP'.mono (by omega)) hD' hg'))
    refine ⟨_, rfl, _, _, rfl, rfl, _, rfl, ?_⟩
    refine ite2 (fun _ => ?_) (fun _ => ?_)
    · refine ⟨_, rfl, rfl, _, rfl, ?_⟩
      rcases hOc with ⟨_, rfl⟩ | ⟨wy, mw, eo, rfl, hW, _, hnw, hlw⟩
      · exact (if_neg (by decide)).mpr (tail _ (fun _ _ z => z) _ _ _ _)
      refine (if_pos (show (!decide (V.ref wy = V.non)) = true by rw [decide_eq_false (fun z : V.ref wy = V.non => nomatch z)]; rfl)).mpr ?_
      have hgw := hOg mw eo
      obtain ⟨kvs, hd, hpr⟩ := id hW
      have hlk : mw.length = kvs.length := Paired.length hpr
      refine ⟨wy, .dT kvs, hd, True.intro, fun od => ?_⟩
      have lk0 : Lk Hc (upd Hc wy (.frz od (.dT kvs))) wy od (.dT kvs) := Lk.first
      refine ⟨_, rfl, wy, od, rfl, .inr ⟨kvs, lk0.at', fun D hDn => ?_⟩⟩
      generalize upd Hc wy (.frz od (.dT kvs)) = H1 at lk0 hDn
      refine lc_map (S := Same) walk_keysT (stp_same D) hDn (by omega) (ofL mw fun _ => true) (fun j H y => ∃ r, y = .ref r ∧ ∃ e, mw[j]? = some e ∧ ∃ qa v, H r = some (.tup [.ref qa, v]) ∧ IsPr H qa e.1 ∧ RB H v e.2) ?_ ?_ ?_ ?_ ?_
      · rintro j H2 H3 y s2 ⟨r, rfl, e, he, qa, v, h1, h2, h3⟩
        exact ⟨r, rfl, e, he, qa, v, s2 _ _ h1, h2.same s2, h3.mono fun a xs e => s2 _ _ e⟩
      · rintro j H2 y acc o hacc ⟨r, rfl, e, he, qa, v, h1, h2, h3⟩
        refine ⟨r, rfl, e, he, qa, v, ?_, ?_, RB.putL hacc (fun _ z => nomatch z) h3⟩
        · rw [upd_ne (ne_of h1 hacc fun z => nomatch z)]
          exact h1
        · unfold IsPr at h2 ⊢
          rw [upd_ne (ne_of h2 hacc fun z => nomatch z)]
          exact h2
      · intro H2 s2
        exact s2 _ _ lk0.at'
      · rintro j x H2 H3 acc N Z hj s2 hacc ⟨rfl, k, v, qa, hkv, rfl, hqa⟩ hyes hno
        obtain ⟨e, he, hek, hev⟩ := paired_at hpr hkv
        have hek : k = key2 e.1 := hek
        subst hek
        have hqa : IsPr H3 qa e.1 := hqa
        have hem : e ∈ mw := List.mem_of_getElem? he
        rcases pl_look (R := fun v b => RB Hc v b) e.1 hpr with ⟨g1, _⟩ | ⟨b, v', g1, g2, g3⟩
        · exact absurd g1 (look_mem hem)
        rw [look_of hnw hem] at g1
        cases g1
        have lk := lk0.same s2
        have gd : DGet H3 wy (.ref qa) (some v') := .inr ⟨kvs, key2 e.1, qa, .inr ⟨od, lk.at'⟩, rfl, hqa, g2.symm⟩
        obtain ⟨t, rfl, ht⟩ := g3
        have ht3 : H3 t = some (.tup [.int e.2.1, .int e.2.2]) := lk.keep _ _ ht (ne_of ht hd fun z => nomatch z)
        refine ⟨rfl, iteT (B := Z H3) ?_⟩
        refine ⟨_, rfl, _, rfl, _, rfl, wy, _, rfl, gd, (by show 2 ≤ sizeLine; decide), fun r2 hr2 => ?_⟩
        have s4 := same_new hr2 (.tup [.ref qa, .ref t])
        exact hyes (by rw [ofL_at he]) _ _ s4 ⟨r2, rfl, e, he, qa, _, upd_same, hqa.same s4, t, rfl, s4 _ _ ht3⟩
      · intro ys H3 s3 e3 r3
        rw [← hlk] at r3
        have r4 : Paired (fun e y => ∃ r, y = .ref r ∧ ∃ qa v, H3 r = some (.tup [.ref qa, v]) ∧ IsPr H3 qa e.1 ∧ RB H3 v e.2) (mw.filter fun _ => true) ys := chosen_whole (fun j c y hc ⟨r, hr, e, he, z⟩ => ⟨r, hr, by rw [hc] at he; cases he; exact z⟩) r3
        rw [List.filter_eq_self.mpr fun _ _ => rfl] at r4
        obtain ⟨ps, rfl, r5⟩ := paired_refs r4
        obtain ⟨kv2, g1, g2, g3⟩ := pairs_kvs (R := fun v b => RB H3 v b) r5
        refine ⟨D, ps, kv2, rfl, SqL.of e3, g1, by rw [g3]; exact keys_nd hnw, fun r3 hp => ?_⟩
        have lk := (lk0.same s3).new hp (o := .dT kv2)
        have hpd : r3 ≠ wy := (ne_of_none (lk0.same s3).at' hp).symm
        refine ⟨lk.at', ?_⟩
        have hp0' : Hc r3 = none := by
          cases e : Hc r3 with
          | none => rfl
          | some o =>
            have z := (lk0.same s3).keep r3 o e hpd
            rw [hp] at z
            cases z
        have sB := lk.back hd
        have hP4' : DT RB (upd (upd H3 r3 (.dT kv2)) wy (.dT kvs)) r3 mw := ⟨kv2, by rw [upd_ne hpd]; exact upd_same, Rw.Paired.imp g2 fun e kv _ h => ⟨h.1, RB.putL lk.at' (fun _ z => nomatch z) (h.2.mono fun a xs e => same_new hp (.dT kv2) _ _ e)⟩⟩
        generalize upd (upd H3 r3 (.dT kv2)) wy (.dT kvs) = He at sB hP4'
        have hPe := hPc.same sB
        have bce := bc.trans (But.of sB)
        have hr3H : H r3 = none := by
          cases e : H r3 with
          | none => rfl
          | some u =>
            exfalso
            by_cases c : r3 = pl
            · obtain ⟨x, y⟩ := hPc.some
              rw [c, y] at hp0'
              cases hp0'
            · rw [bc _ _ e c] at hp0'
              cases hp0'
        have r3pl : r3 ≠ pl := by
          obtain ⟨x, y⟩ := hPc.some
          exact (ne_of_none y hp0').symm
        exact rT _ H He pl r3 (some (.ref l)) (some (.ref d)) (some (.ref wy)) _ _ _ _ (n + 1) ns mw hPe (by omega) (.inr trivial) r3pl hr3H bce hP4' hgw h4 (fun m' H' b' hP' hD' hg' => q r3 H' m' hr3H b' (hP'.mono (by omega)) hD' hg')
    · exact tail _ (fun _ _ z => z) _ _ _ _
end
end Rw
set_option Elab.async false
set_option linter.all false
set_option maxRecDepth 100000
set_option maxHeartbeats 4000000
namespace Rw
open PySem PySem.Spec PyProof.Rows L2
/-! ### several except clauses, with names and without -/
abbrev Sui : Type := Addr → Value → Option Addr → TS
/-- what comes behind a clause that names slot i -/
def goneD (i : Nat) (D : Ends) : Ends := ⟨fun τ G => D.nx (τ.set i none) G, D.rt, fun τ G => D.bk (τ.set i none) G, fun τ G => D.ct (τ.set i none) G⟩
def wMix (K : PySem.W.Frag) (out : WX) (D : Ends) : List (Value × Option Nat × Sui) → WX
  | [] => out
  | (c, none, ts) :: r => fun cls d σ H => ∃ b, PySem.W.exmOne K cls c = some b ∧ (b = true → ∀ a, H a = none → ts a cls d D σ H) ∧ (b = false → wMix K out D r cls d σ H)
  | (c, some i, ts) :: r => fun cls d σ H => ∃ b, PySem.W.exmOne K cls c = some b ∧ (b = true → ∀ a, H a = none → ts a cls d (goneD i D) (σ.set i (some (.ref a))) H) ∧ (b = false → wMix K out D r cls d σ H)
/-- the suite of a clause, walked -/
def SuiOk (X : Cx) (sts : List Stmt) (ts : Sui) : Prop := ∀ (a : Addr) (oe : Obj) (cls : Value) (d : Option Addr) (pn : List (Addr × Obj)), Zc cls d oe → (∃ vs, oe.data = .fields vs) → PSs (X.suite a ((a, oe) :: pn)) sts (ts a cls d)
inductive HdsMix (X : Cx) : List ExceptHandler → List (Value × Option Nat × Sui) → Prop
  | nil : HdsMix X [] []
  | plain {x : Str} {c : Value} {ts : Sui} {b : Stmt} {sts : List Stmt} {p1 p2 : Pos} {hs : List ExceptHandler} {l : List (Value × Option Nat × Sui)} (hc : Names X x c) (hsu : SuiOk X (b :: sts) ts) (r : HdsMix X hs l) :
      HdsMix X (.ExceptHandler (some (.Name x p1)) none (b :: sts) p2 :: hs) ((c, none, ts) :: l)
  | named {x n : Str} {i : Nat} {c : Value} {ts : Sui} {b : Stmt} {sts : List Stmt} {p1 p2 : Pos} {hs : List ExceptHandler} {l : List (Value × Option Nat × Sui)} (hc : Names X x c) (hN : X.N.Nodup) (hi : X.N[i]? = some n) (hl : X.env.kindOf n = some .local)
      (hsu : SuiOk X (b :: sts) ts) (r : HdsMix X hs l) : HdsMix X (.ExceptHandler (some (.Name x p1)) (some n) (b :: sts) p2 :: hs) ((c, some i, ts) :: l)
section
variable {X : Cx} {body : List Stmt} {h₀ : ExceptHandler} {hds : List ExceptHandler} {l : List (Value × Option Nat × Sui)} {pos : Pos} {tb : WX → TS} {out : WX}
theorem ps_try_mix (hs : X.stack = X.env :: X.outer) (hf : X.env.frame = some X.env.locals) (tk : Takes X out)
    (hb : ∀ (W : WX) (pn : List (Addr × Obj)) (xe : Value → Shared → Prop), Takes (X.tr pn xe) W → PassesOwn (model X.prog X.w) X.A X.env xe → PSs (X.tr pn xe) body (tb W))
    (hh : HdsMix X (h₀ :: hds) l) : PS X (.Try body (h₀ :: hds) [] [] pos) (fun D σ H => tb (wMix X.K out D l) D σ H) := by
  constructor
  intro pins s σ H D I h
  have ok := I.ok
  have hfr : X.A.frames = some (X.env :: X.outer) := ok.frames.trans (by rw [hs])
  refine wpAny_Try_except (wpAny_mono (PSs.run (hb (wMix X.K out D l) (X.pn ++ pins) (fun e s₁ => wpAny (model X.prog X.w) X.A (noteFrame e X.env) (fun _ s₂ => wpAny (model X.prog X.w) X.A (setFlight e none)
    (fun _ s₃ => wpAny (model X.prog X.w) X.A (handleBy e X.env (h₀ :: hds)) (SP X pins D) X.xe s₃) X.xe s₂) X.xe s₁) (fun u t xx => ?_) PassesOwn.looking) [] s σ H D (I.toTry _) h) (fun f t hsp => ?_) fun _ _ he => he)
  · obtain ⟨a, B, sI, pins', τ, G, cls, d, rfl, J', nb, up, sky, na, os, ag, w⟩ := xx
    have J : Inv X pins τ G sI := J'.ofTry ok
    rw [hs] at sky
    show wpAny (model X.prog X.w) X.A (noteFrame (.ref a) X.env) _ _ _
    refine Sky.land Zc.steady hfr hf sky fun g3 fl up3 => ?_
    have J3 : Inv X pins τ G { t with heap := g3 } := J.landed nb fl.1 (up.trans up3) os ag
    obtain ⟨o3, v3, e3, z3, d3⟩ := fl.there
    have noFr : a ∉ frs (X.env :: X.outer) := fun hm => by
      obtain ⟨_, o', e', hn⟩ := fl.2.2.1.mem hm
      rw [e3] at e'
      cases e'
      exact hn _ d3
    have nL : a ≠ X.env.locals := fun z => noFr (List.mem_filterMap.mpr ⟨X.env, List.mem_cons_self, hf.trans (by rw [z])⟩)
    have nF : a ∉ X.fs := fun hm => by
      obtain ⟨e, he, q⟩ := List.mem_filterMap.mp hm
      exact noFr (List.mem_filterMap.mpr ⟨e, List.mem_cons_of_mem _ he, q⟩)
    have S3 := J3.suite e3 d3 na nL nF
    have type : PySem.W.Looks (model X.prog X.w) g3 (typeOf (.ref a)) cls := fun A Q E s k q => wpAny_typeOf_ref (k _ _ e3) (by rw [z3.1]; exact q)
    -- the class that a clause names
    have test : ∀ {x : Str} {c : Value} {np : Pos} {Q E : Value → Shared → Prop}, Names X x c → Q c { t with heap := g3 } → wpAny (model X.prog X.w) (X.A.mark (some (.ref a))) (eval (.Name x np) X.env) Q E { t with heap := g3 } := fun {x c np Q E} hc q => by
      obtain ⟨hg, hdbg, hm | ⟨hm, hv, hnn⟩⟩ := hc
      · exact ld_glob (X := X.suite a ((a, o3) :: (X.pn ++ pins))) S3 hg hm q hdbg
      · exact ld_blt (X := X.suite a ((a, o3) :: (X.pn ++ pins))) S3 hg hm hv q hnn hdbg
    have go : ∀ {ks : List ExceptHandler} {m : List (Value × Option Nat × Sui)}, HdsMix X ks m → wMix X.K out D m cls d τ G → wpAny (model X.prog X.w) X.A (handleBy (.ref a) X.env ks) (SP X pins D) X.xe { t with heap := g3 } := by
      intro ks m hk
      induction hk with
      | nil =>
        intro w
        refine wpAny_handleBy_nil ?_
        obtain ⟨_, _, _, oe, vs, T, _, _, he, _, hd, h1, _⟩ := id fl
        unfold PySem.passOn
        refine wpAny_bind (wpAny_field he hd h1 ?_)
        rw [if_neg (by simp)]
        have fin : wpAny (model X.prog X.w) X.A (setFlight (.ref a) X.env.frame) (fun _ s4 => wpAny (model X.prog X.w) X.A (throw (.ref a) : Sem Flow) (SP X pins D) X.xe s4) X.xe { t with heap := g3 } := by
          rw [hf]
          exact HandSPX.setFlight_upZ fl fun h4 hh4 up4 => wpAny_throw (tk _ _ ⟨a, B, sI, pins, τ, G, cls, d, rfl, J, nb, (up.trans up3).trans up4, .inr (.inr (hs ▸ hh4)), na, os, ag, w⟩)
        first | exact wpAny_bind (wpAny_pure (wpAny_bind fin)) | exact wpAny_bind fin
      | @plain x c ts b sts p1 p2 k2 l2 hc hsu r ih =>
        intro w
        obtain ⟨k, hk1, yes, no⟩ := w
        refine wpAny_handleBy_cons (codeAny_handlers_test (test hc ((PySem.W.exm_one (M := model X.prog X.w) J3.kIn type hk1).here ?_))) (fun z => nomatch z)
        cases k with
        | false => exact ih (no rfl)
        | true =>
          refine codeAny_handlers_suite (HandSPX.lands_againZ fl fun g4 fl4 up4 => ?_)
          have J4 : Inv X pins τ G { t with heap := g4 } := J.landed nb fl4.1 ((up.trans up3).trans up4) os ag
          obtain ⟨o4, v4, e4, z4, d4⟩ := fl4.there
          refine wpAny_mono ((hsu a o4 cls d (X.pn ++ pins) z4 ⟨_, d4⟩).run [] _ _ G _ (J4.suite e4 d4 na nL nF) (yes rfl a na)) (fun f s6 hsp => ?_) fun _ _ z => z.elim
          match f, hsp with
          | .next, ⟨_, _, S, q⟩ => exact ⟨_, _, S.unsuite ok, q⟩
          | .brk, ⟨_, _, S, q⟩ => exact ⟨_, _, S.unsuite ok, q⟩
          | .cont, ⟨_, _, S, q⟩ => exact ⟨_, _, S.unsuite ok, q⟩
          | .ret u, ⟨_, _, _, S, r, q⟩ => exact ⟨_, _, _, S.unsuite ok, r, q⟩
      | @named x n i c ts b sts p1 p2 k2 l2 hc hN hi hl hsu r ih =>
        intro w
        obtain ⟨k, hk1, yes, no⟩ := w
        refine wpAny_handleBy_cons (codeAny_handlers_test (test hc ((PySem.W.exm_one (M := model X.prog X.w) J3.kIn type hk1).here ?_))) (fun z => nomatch z)
        cases k with
        | false => exact ih (no rfl)
        | true =>
          refine codeAny_handlers_suite_as (HandSPX.lands_againZ fl fun g4 fl4 up4 => ?_)
          have J4 : Inv X pins τ G { t with heap := g4 } := J.landed nb fl4.1 ((up.trans up3).trans up4) os ag
          obtain ⟨o4, v4, e4, z4, d4⟩ := fl4.there
          refine store_ok (X := X.suite a ((a, o4) :: (X.pn ++ pins))) (v := .ref a) (J4.suite e4 d4 na nL nF) hN hi (.inl hl) rfl (fun s5 S5 => ?_) (.inr hl)
          refine wpAny_mono ((hsu a o4 cls d (X.pn ++ pins) z4 ⟨_, d4⟩).run [] s5 _ G _ S5 (yes rfl a na)) (fun f s6 hsp => ?_) fun _ _ z => z.elim
          match f, hsp with
          | .next, ⟨_, _, S, q⟩ => exact gone_ok (S.unsuite ok) hN hi hl fun s7 J7 => ⟨_, _, J7, q⟩
          | .brk, ⟨_, _, S, q⟩ => exact gone_ok (S.unsuite ok) hN hi hl fun s7 J7 => ⟨_, _, J7, q⟩
          | .cont, ⟨_, _, S, q⟩ => exact gone_ok (S.unsuite ok) hN hi hl fun s7 J7 => ⟨_, _, J7, q⟩
          | .ret u, ⟨_, _, _, S, r, q⟩ => exact gone_ok (S.unsuite ok) hN hi hl fun s7 J7 => ⟨_, _, _, J7, r, q⟩
    exact go hh w
  · match f, hsp with
    | .next, ⟨_, _, S, q⟩ => exact wpAny_execs_nil ⟨_, _, S.ofTry ok, q⟩
    | .brk, ⟨_, _, S, q⟩ => exact ⟨_, _, S.ofTry ok, q⟩
    | .cont, ⟨_, _, S, q⟩ => exact ⟨_, _, S.ofTry ok, q⟩
    | .ret u, ⟨_, _, _, S, r, q⟩ => exact ⟨_, _, _, S.ofTry ok, r, q⟩
end
end Rw
set_option Elab.async false
set_option linter.all false
set_option maxRecDepth 100000
set_option maxHeartbeats 8000000
namespace Rw
open PySem L2
abbrev sMet : Stmt := top 62
/-- the four errors that are met -/
structure Errs (K : PySem.W.Frag) (CU CN CS CE : Addr) : Prop where
  xN : XfC K CN
  xS : XfC K CS
  nN : PySem.W.findIn K (.ref CN) "name" = some none
  nS : PySem.W.findIn K (.ref CS) "name" = some none
  uu : PySem.W.exmOne K (.ref CU) (.ref CU) = some true
  nu : PySem.W.exmOne K (.ref CN) (.ref CU) = some false
  nn : PySem.W.exmOne K (.ref CN) (.ref CN) = some true
  su : PySem.W.exmOne K (.ref CS) (.ref CU) = some false
  sn : PySem.W.exmOne K (.ref CS) (.ref CN) = some false
  ss : PySem.W.exmOne K (.ref CS) (.ref CS) = some true
  eu : PySem.W.exmOne K (.ref CE) (.ref CU) = some false
  en : PySem.W.exmOne K (.ref CE) (.ref CN) = some false
  es : PySem.W.exmOne K (.ref CE) (.ref CS) = some false
  ee : PySem.W.exmOne K (.ref CE) (.ref CE) = some true
/-- an error that keeps one thing leads to a pair of a word and that thing -/
def Kept (C : Addr) (fld word : Str) (Q : VK) (cls : Value) (d : Option Addr) (H' : Hp) : Prop := cls = .ref C ∧ ∃ (dd : Addr) (fs : List (Str × V)) (v : V), d = some dd ∧ H' dd = some (.xd fs) ∧ fs.lookup fld = some v ∧ ∀ p, H' p = none → Q (.ref p) (upd H' p (.tup [.str word, v]))
/-- _law_met: what is told of the call, or of the error -/
def TMet (CU CN CS CE : Addr) : (XK → Hp → VK → Prop) → Hp → VK → Prop := fun tl H Q =>
  tl (fun cls d H' => (cls = .ref CU ∧ ∀ p, H' p = none → Q (.ref p) (upd H' p (.tup [.str "unlike", .non]))) ∨ Kept CN "name" "name" Q cls d H' ∨ Kept CS "name" "same" Q cls d H' ∨ (cls = .ref CE ∧ ∀ p, H' p = none → Q (.ref p) (upd H' p (.tup [.str "empty", .non])))) H
    (fun u H' => 2 ≤ sizeLine ∧ ∀ p, H' p = none → Q (.ref p) (upd H' p (.tup [.str "told", u])))
section
variable {X : Cx}
theorem takes_len {n : Nat} {W : WX} (t : Takes X W) (hN : X.N.length = n := by rfl) : Takes X (fun cls d σ H => σ.length = n → W cls d σ H) := fun u s' ⟨a, B, sI, pins, σ, H, cls, d, e, I, nb, up, sky, na, os, ag, w⟩ =>
  t u s' ⟨a, B, sI, pins, σ, H, cls, d, e, I, nb, up, sky, na, os, ag, w (I.len.trans hN)⟩
theorem scMet : FnScope ["_law_ask", "e"] ["_law_ask"] (defScope sMet) := ⟨rfl, rfl, rfl, by decide +kernel, rfl, by decide +kernel, by decide +kernel⟩
theorem met_gives {g CU CN CS CE : Addr} {cdg : Value} (mU : X.mg "UnlikeNames" = some (.ref CU)) (mN : X.mg "NoName" = some (.ref CN)) (mS : X.mg "SameName" = some (.ref CS)) (mE : X.mg "Empty" = some (.ref CE)) (ER : Errs X.K CU CN CS CE) (q : Str) :
    LamX.GivesTo X ["_law_ask", "e"] "_law_met" (defScope sMet) g cdg (defBody sMet) "_law_ask" q (TMet CU CN CS CE) := by
  intro f c' s H Q tl act hc h
  have nd : (["_law_ask", "e"] : List Str).Nodup := by decide +kernel
  refine ⟨_, pss_one (ps_try_mix (X := (cxOf C8.CX0 X.prog X.w X.K X.mg X.base ["_law_ask", "e"] "_law_met" (defScope sMet) g cdg X.A X.stack s H C8.E0).nox)
      (tb := fun W D σ H => ∃ Ech : XK, (∀ cls d σ' H', σ'.length = 2 → Ech cls d H' → W cls d σ' H') ∧ σ[0]? = some (some (.ref f)) ∧ H c' = some (LamX.CodeO c' q) ∧ tl Ech H (fun u H' => 2 ≤ sizeLine ∧ ∀ p, H' p = none → D.rt (.ref p) (upd H' p (.tup [.str "told", u]))))
      rfl rfl LamX.takes0 (fun W pn xe tk _ => ?_)
      (.plain (c := .ref CU) ⟨rfl, by decide, .inl mU⟩ (fun a oe cls d pn hz hf => pss_one (ps_ret (pe_tup (pa_cons pe_str (pa_cons pe_non pa_nil)))))
      (.named (i := 1) (c := .ref CN) ⟨rfl, by decide, .inl mN⟩ nd rfl rfl (fun a oe cls d pn hz hf => pss_one (ps_ret (pe_tup (pa_cons pe_str (pa_cons (pe_xf ER.xN ER.nN hz hf (pv 1)) pa_nil)))))
      (.named (i := 1) (c := .ref CS) ⟨rfl, by decide, .inl mS⟩ nd rfl rfl (fun a oe cls d pn hz hf => pss_one (ps_ret (pe_tup (pa_cons pe_str (pa_cons (pe_xf ER.xS ER.nS hz hf (pv 1)) pa_nil)))))
      (.plain (c := .ref CE) ⟨rfl, by decide, .inl mE⟩ (fun a oe cls d pn hz hf => pss_one (ps_ret (pe_tup (pa_cons pe_str (pa_cons pe_non pa_nil)))))
      .nil))))), ?_⟩
  · refine ⟨fun pins s' σ H' D I h' => ?_⟩
    obtain ⟨Ech, hW, h1, h2, h3⟩ := h'
    refine PSs.run (t := tRet (tTup (tCons (tC (.str "told")) (tCons (fun σZ HZ Q => σZ[0]? = some (some (V.ref f)) ∧ HZ c' = some (LamX.CodeO c' q) ∧ tl Ech HZ Q) tNil)))) ?_ pins s' σ H' D I ⟨h1, h2, h3⟩
    exact pss_one (ps_ret (pe_tup (pa_cons pe_str (pa_cons (act (fun cls d σ H => σ.length = 2 → W cls d σ H) pn xe Ech _ _ (takes_len tk) fun cls d σ' H' h hl => hW cls d σ' H' hl h) pa_nil))))
  · refine ⟨_, fun cls d σ' H' hlen hw => ?_, rfl, hc, h⟩
    have at1 : ∀ a : Addr, (σ'.set 1 (some (V.ref a)))[1]? = some (some (.ref a)) := fun a => by rw [List.getElem?_set_self (by omega)]
    rcases hw with ⟨rfl, hq⟩ | ⟨rfl, dd, fs, v, rfl, e1, e2, hq⟩ | ⟨rfl, dd, fs, v, rfl, e1, e2, hq⟩ | ⟨rfl, hq⟩
    · exact ⟨true, ER.uu, fun _ a ha => ⟨(by show 2 ≤ sizeLine; decide), fun p hp => hq p hp⟩, fun z => nomatch z⟩
    · refine ⟨false, ER.nu, (fun z => nomatch z), fun _ => ⟨true, ER.nn, fun _ a ha => ?_, fun z => nomatch z⟩⟩
      exact ⟨_, at1 a, rfl, rfl, dd, fs, v, rfl, e1, e2, (by show 2 ≤ sizeLine; decide), fun p hp => hq p hp⟩
    · refine ⟨false, ER.su, (fun z => nomatch z), fun _ => ⟨false, ER.sn, (fun z => nomatch z), fun _ => ⟨true, ER.ss, fun _ a ha => ?_, fun z => nomatch z⟩⟩⟩
      exact ⟨_, at1 a, rfl, rfl, dd, fs, v, rfl, e1, e2, (by show 2 ≤ sizeLine; decide), fun p hp => hq p hp⟩
    · exact ⟨false, ER.eu, (fun z => nomatch z), fun _ => ⟨false, ER.en, (fun z => nomatch z), fun _ => ⟨false, ER.es, (fun z => nomatch z), fun _ => ⟨true, ER.ee, fun _ a ha => ⟨(by show 2 ≤ sizeLine; decide), fun p hp => hq p hp⟩, fun z => nomatch z⟩⟩⟩⟩
end
end Rw
set_option Elab.async false
set_option linter.all false
set_option maxRecDepth 100000
set_option maxHeartbeats 4000000
namespace Rw.NeL
open PySem PySem.SeqAt
open AutoSeq1 (wpAny_loadPart')
open MeetsSeq MeetsSeq2 MeetsSeq3 SeqRoads2
section
variable {prog : Program} {w : World} {A : Around} {R : Result → Shared → Prop}
/-- both lists, read anew at each turn, alike as far as asked -/
def Al (prog : Program) (w : World) (A : Around) (E : Value → Shared → Prop) (l b : Addr) (N : Nat) (I : Nat → Shared → Prop) : Prop := GQ.ListI prog w A E l b N I
theorem loop_ne (l b : Addr) (N : Nat) (I : Nat → Shared → Prop) (hl : Al prog w A (fun e s' => R (.error e) s') l b N I) (last : ∀ s, I N s → R (.ok (.ret (.bool false))) s) :
    ∀ (k i : Nat), N - i = k → i ≤ N → ∀ s, I i s → wpAny (model prog w) A.in1 (Builtin.«list.__eq__.loop» ⟨[.ref l, .ref b, rawInt i, rawInt 3], []⟩) (GQ.FinOf prog w A R) (fun e s' => R (.error e) s') s
  | 0, i, hk, hi, s, h => by
    obtain ⟨xs, ys, n, n2, e1, e2, z1, z2, _⟩ := hl _ _ h
    have ei : i = N := by omega
    have hR : R (.ok (.ret (.bool false))) s := last s (ei ▸ h)
    obtain ⟨heap1, g, d, tk, oss⟩ := s
    wp_walk using wpAny_loadPart' e1, wpAny_loadPart' e2
    have o1 : xs[((i : Nat) : Int).toNat]? = none := by simp; omega
    have o2 : ys[((i : Nat) : Int).toNat]? = none := by simp; omega
    rw [o1, o2]
    wp_walk using wpAny_loadPart' e1, wpAny_loadPart' e2
    show R (.ok (.ret (.bool (xs.size != ys.size)))) _
    rw [z1, z2]
    simpa using hR
  | k + 1, i, hk, hi, s, h => by
    obtain ⟨xs, ys, n, n2, e1, e2, z1, z2, turn⟩ := hl _ _ h
    have l1 : i < xs.size := by omega
    have l2 : i < ys.size := by omega
    have ht := turn l1 l2
    obtain ⟨heap1, g, d, tk, oss⟩ := s
    wp_walk using wpAny_loadPart' e1, wpAny_loadPart' e2
    have o1 : xs[((i : Nat) : Int).toNat]? = some xs[i] := by simp [l1]
    have o2 : ys[((i : Nat) : Int).toNat]? = some ys[i] := by simp [l2]
    have ec : ((i : Int) + 1) = ((i + 1 : Nat) : Int) := by omega
    rw [o1, o2]
    refine wpAny_bind (wpAny_mono ht (fun r s2 q => ?_) fun _ _ x => x)
    obtain ⟨hr, q⟩ := q
    subst hr
    have again := loop_ne l b N I hl last k (i + 1) (by omega) (by omega) s2 q
    obtain ⟨heap2, g2, d2, tk2, oss2⟩ := s2
    wp_walk
    rw [ec]
    refine ⟨plainId_quiet plain_eq_loop _, codeAny_builtin entry_eq_loop ?_⟩
    exact (Around.under_plainId plain_eq_loop _).symm ▸ again
theorem list_ne (l b : Addr) (N : Nat) (I : Nat → Shared → Prop) (hl : Al prog w A (fun e s' => R (.error e) s') l b N I) (last : ∀ s, I N s → R (.ok (.ret (.bool false))) s) {s : Shared} (h : I 0 s) :
    wpAny (model prog w) A.in1 (Builtin.«list.__ne__» ⟨[.ref l, .ref b], []⟩) (GQ.FinOf prog w A R) (fun e s' => R (.error e) s') s := by
  obtain ⟨xs, ys, n, n2, e1, e2, z1, z2, _⟩ := hl _ _ h
  have again := loop_ne (A := A) (R := R) l b N I hl last _ 0 rfl (Nat.zero_le _) s h
  obtain ⟨heap1, g, d, tk, oss⟩ := s
  have subL := AutoSeq1.sub_list_list
  have hne : ¬ (xs.size != ys.size) = true := by simp [z1, z2]
  wp_walk using wpAny_loadPart' e1, wpAny_loadPart' e2
  refine ⟨plainId_quiet plain_eq_loop _, codeAny_builtin entry_eq_loop ?_⟩
  exact (Around.under_plainId plain_eq_loop _).symm ▸ again
end
section
variable {prog : Program} {w : World} {A : Around} {E : Value → Shared → Prop} {s : Shared}
theorem rc_ne {l b : Addr} {N : Nat} {Q : Value → Shared → Prop} (hu : A.units < cLine) (I : Nat → Shared → Prop) (hl : Al prog w A E l b N I) (last : ∀ s, I N s → Q (.bool false) s) (h : I 0 s) :
    wpAny (model prog w) A (richCompare .NotEq (.ref l) (.ref b)) Q E s := by
  obtain ⟨xs, ys, n, n2, e1, e2, _, _, _⟩ := hl _ _ h
  refine wpAny_richCompare_same_room (op := .NotEq) ⟨_, e1, rfl⟩ ⟨_, e2, rfl⟩ F.slot_list_ne (GQ.call_here F.slot_list_ne ⟨_, e1, rfl⟩ F.entry_list_ne (F.args_list_ne_2 _ _) ?_) hu
  exact list_ne (R := wants (fun v s' => v ≠ .notImplemented ∧ Q v s') E) l b N I hl (fun s' q => ⟨(fun x => nomatch x), last s' q⟩) h
end
end Rw.NeL
namespace Rw
open PySem PySem.Spec PyProof.Rows L2
def rNeG (D : Eqv) : R2 := fun x y H Q => DList D x y H ∧ ∀ H', Ext H H' → Q (.bl false) H'
theorem op_neG {X : Cx} {n : Nat} {D : Eqv} (hD : Mon D) (h : EqG X n D) (hr : Room (n + 1) X.A) : OpR X (compareOp .NotEq) (rNeG D) := by
  intro pins s σ H x y v u Q I rx ry hq
  obtain ⟨⟨a, b, xs, ys, rfl, rfl, ha, hb, p⟩, q⟩ := hq
  cases rx
  cases ry
  show wpAny (model X.prog X.w) X.A (richCompare .NotEq (.ref a) (.ref b)) (EP X pins σ Q) X.xe s
  have sb : Sub X (n + 1) X.A := ⟨hr, rfl⟩
  refine NeL.rc_ne (N := xs.length) sb.room.units0 (fun _ s' => LoopI X pins σ H s') (fun i s' q => ?_) (fun s' l => ?_) ⟨H, I, Ext.rfl'⟩
  · obtain ⟨H1, I1, e1⟩ := id q
    obtain ⟨z, ia, k, r, ea⟩ := I1.hok a _ (e1 _ _ ha)
    obtain ⟨z2, ib, k2, r2, eb⟩ := I1.hok b _ (e1 _ _ hb)
    refine ⟨ia.toArray, ib.toArray, k, k2, ea, eb, by rw [List.size_toArray, ← r.length], by rw [List.size_toArray, ← r2.length, ← p.1], fun h1 h2 => ?_⟩
    exact turnG hD h sb p r r2 i h1 h2 s' q
  · obtain ⟨H', I', e⟩ := l
    exact ⟨.bl false, H', I', rfl, q H' e⟩
end Rw
set_option Elab.async false
set_option linter.all false
set_option maxRecDepth 100000
set_option maxHeartbeats 4000000
namespace Rw
open PySem L2
/-! ### within and alike by least ways -/
section
variable {c d : Str → Str → Code'} {ss : List Str}
def LW (c d : Str → Str → Code') (ss : List Str) : Prop := ∀ x y, leC (WM c ss x y) (d x y)
theorem le_path (hE : Edge c ss) (hb : ¬ LawBad c ss) (h : LW c d ss) : ∀ (p : List Str) (a b : Str), (a :: p).getLast? = some b → leC (WM c ss a b) (val d (a :: p))
  | [], a, b, e => by
    have e : a = b := Option.some.inj e
    unfold WM
    rw [if_pos e]
    exact leC_refl _
  | y :: r, a, b, e => by
    rw [val_cons]
    exact leC_trans (WM_tri hE hb a y b) (sum_mono (h a y) (le_path hE hb h r y b (by rw [List.getLast?_cons_cons] at e; exact e)))
theorem le_ways (hE : Edge c ss) (hb : ¬ LawBad c ss) (h : LW c d ss) (x y : Str) : leC (WM c ss x y) (WM d ss x y) := fun v hv => by
  obtain ⟨p, h1, h2⟩ := WM_way hv
  have z := le_path hE hb h p x y h1
  rw [h2] at z
  exact z v rfl
theorem lw_good (hE : Edge c ss) (hb : ¬ LawBad c ss) (h : LW c d ss) : ¬ LawBad d ss := fun hd => by
  obtain ⟨a, v, ⟨p, h1, h2⟩, hv⟩ := bad_is hd
  have z := le_path hE hb h p a a h1
  rw [h2] at z
  unfold WM at z
  rw [if_pos rfl] at z
  obtain ⟨u, hu, hl⟩ := z v rfl
  cases hu
  omega
end
theorem wm_ways {c : Str → Str → Code'} {ss : List Str} {x y : Str} (h : x ≠ y) : WM c ss x y = W c ss x y := if_neg h
open Classical in
noncomputable def optW (ns : List Str) (m : List (Pr × Bd)) : Option (List (Pr × Bd)) := if LawBad (codeM m) (spots ns) then none else some (wsOf ns m)
theorem edge_le {d : Str → Str → Code'} {ss : List Str} (hE : Edge d ss) {c : Str → Str → Code'} : LW c d ss ↔ ∀ x y, x ∈ ss → y ∈ ss → x ≠ y → leC (WM c ss x y) (d x y) := by
  constructor
  · exact fun h x y _ _ _ => h x y
  · intro h x y v hv
    obtain ⟨h1, h2, h3⟩ := hE x y v hv
    exact h x y h1 h2 h3 v hv
theorem within_iff {ns : List Str} {m m2 : List (Pr × Bd)} (hd : Drawn ns) (hg : GoodB (spots ns) m) (hg2 : GoodB (spots ns) m2) (hb : ¬ LawBad (codeM m) (spots ns)) : withinB ns (tabM ns m) (tabM ns m2) = true ↔ LW (codeM m) (codeM m2) (spots ns) := by
  rw [edge_le (edge_good hg2)]
  unfold withinB
  rcases told_law hd hg with ⟨_, hbad⟩ | ⟨M', e, _, hM⟩
  · exact absurd hbad hb
  rw [e]
  show allAs (ns.length + 1) M' (gridM ns (tabM ns m2)) = true ↔ _
  unfold allAs
  rw [List.all_eq_true]
  have cell : ∀ i j x y, (spots ns)[i]? = some x → (spots ns)[j]? = some y → asC (matAt M' i j) (matAt (gridM ns (tabM ns m2)) i j) = asC (WM (codeM m) (spots ns) x y) (if x = y then some 1 else codeM m2 x y) := fun i j x y hx hy => by
    rw [hM i j x y hx hy, gridM_at hx hy, codeM_kept hg2]
    rfl
  constructor
  · intro h x y hx hy hxy
    obtain ⟨i, hi, ei⟩ := List.mem_iff_getElem.mp hx
    obtain ⟨j, hj, ej⟩ := List.mem_iff_getElem.mp hy
    have ei : (spots ns)[i]? = some x := by rw [List.getElem?_eq_getElem hi, ei]
    have ej : (spots ns)[j]? = some y := by rw [List.getElem?_eq_getElem hj, ej]
    have z := h (i, j) (mem_prsN.mpr ⟨hi, hj⟩)
    have z : asC (matAt M' i j) (matAt (gridM ns (tabM ns m2)) i j) = true := z
    rw [cell i j x y ei ej, if_neg hxy] at z
    exact asC_iff.mp z
  · rintro h ⟨i, j⟩ he
    obtain ⟨hi, hj⟩ := mem_prsN.mp he
    have ei := List.getElem?_eq_getElem (l := spots ns) (i := i) hi
    have ej := List.getElem?_eq_getElem (l := spots ns) (i := j) hj
    show asC (matAt M' i j) (matAt (gridM ns (tabM ns m2)) i j) = true
    rw [cell i j _ _ ei ej]
    by_cases c : (spots ns)[i] = (spots ns)[j]
    · rw [if_pos c]
      unfold WM
      rw [if_pos c]
      rfl
    · rw [if_neg c]
      exact asC_iff.mpr (h _ _ (List.getElem_mem _) (List.getElem_mem _) c)
theorem lies_iff {ns : List Str} {m m2 : List (Pr × Bd)} (hd : Drawn ns) (hg2 : GoodB (spots ns) m2) : liesB (some (wsOf ns m)) m2 = true ↔ LW (codeM m) (codeM m2) (spots ns) := by
  rw [edge_le (edge_good hg2)]
  unfold liesB
  rw [List.all_eq_true]
  have key : ∀ e ∈ m2, ((match look (wsOf ns m) e.1 with | none => false | some b => decide (codeB b ≤ codeB e.2)) = true ↔ leC (WM (codeM m) (spots ns) e.1.1 e.1.2) (some (codeB e.2))) := by
    rintro ⟨⟨x, y⟩, b⟩ he
    have hp := (hg2.2 _ he).1
    have hk := hg2.keys _ he
    have el : look (wsOf ns m) (x, y) = (W (codeM m) (spots ns) x y).map boundC := look_ways hd.nd hp
    show (match look (wsOf ns m) (x, y) with | none => false | some b' => decide (codeB b' ≤ codeB b)) = true ↔ leC (WM (codeM m) (spots ns) x y) (some (codeB b))
    rw [el, wm_ways hk.2.2]
    cases W (codeM m) (spots ns) x y with
    | none => exact ⟨(fun z => nomatch z), fun z => by obtain ⟨u, hu, _⟩ := z _ rfl; cases hu⟩
    | some k =>
      show decide (codeB (boundC k) ≤ codeB b) = true ↔ _
      rw [code_bound, decide_eq_true_eq]
      exact ⟨fun z u hu => by cases hu; exact ⟨k, rfl, z⟩, fun z => by obtain ⟨u, hu, hl⟩ := z _ rfl; cases hu; exact hl⟩
  constructor
  · intro h x y hx hy hxy
    unfold codeM
    cases e : look m2 (x, y) with
    | none => exact leC_none _
    | some b => exact (key _ (look_in e)).mp (h _ (look_in e))
  · rintro h ⟨⟨x, y⟩, b⟩ he
    have hk := hg2.keys _ he
    refine (key _ he).mpr ?_
    have z := h x y hk.1 hk.2.1 hk.2.2
    unfold codeM at z
    rw [look_of hg2.1 he] at z
    exact z
theorem within_lies {ns : List Str} {m m2 : List (Pr × Bd)} (hd : Drawn ns) (hg : GoodB (spots ns) m) (hg2 : GoodB (spots ns) m2) : withinB ns (tabM ns m) (tabM ns m2) = liesB (optW ns m) m2 := by
  unfold optW
  by_cases hb : LawBad (codeM m) (spots ns)
  · rw [if_pos hb]
    unfold withinB
    rcases told_law hd hg with ⟨e, _⟩ | ⟨M', _, hnb, _⟩
    · rw [e]
      rfl
    · exact absurd hb hnb
  · rw [if_neg hb, Bool.eq_iff_iff, within_iff hd hg hg2 hb, lies_iff hd hg2]
/-- dicts of bounds, alike -/
def sameM (w1 w2 : List (Pr × Bd)) : Bool := w1.length == w2.length && w1.all fun e => match look w2 e.1 with
  | none => false
  | some b => decide (e.2 = b)
def eqW : Option (List (Pr × Bd)) → Option (List (Pr × Bd)) → Bool
  | none, none => true
  | some w1, some w2 => sameM w1 w2
  | _, _ => false
theorem same_lw {ns : List Str} {m m2 : List (Pr × Bd)} (hd : Drawn ns) (hg : GoodB (spots ns) m) (hg2 : GoodB (spots ns) m2) (hb : ¬ LawBad (codeM m) (spots ns)) (hb2 : ¬ LawBad (codeM m2) (spots ns)) :
    sameM (wsOf ns m) (wsOf ns m2) = true ↔ LW (codeM m) (codeM m2) (spots ns) ∧ LW (codeM m2) (codeM m) (spots ns) := by
  have hE := edge_good hg
  have hE2 := edge_good hg2
  constructor
  · intro h
    unfold sameM at h
    rw [Bool.and_eq_true] at h
    obtain ⟨h1, h2⟩ := h
    have h1 : (wsOf ns m).length = (wsOf ns m2).length := of_decide_eq_true (by simpa using h1)
    have nd1 : ((wsOf ns m).map (·.1)).Nodup := waysL_nd (prsOf_nd hd.nd hd.nd)
    have nd2 : ((wsOf ns m2).map (·.1)).Nodup := waysL_nd (prsOf_nd hd.nd hd.nd)
    have there : ∀ e ∈ wsOf ns m, look (wsOf ns m2) e.1 = some e.2 := fun e he => by
      have z := List.all_eq_true.mp h2 e he
      cases el : look (wsOf ns m2) e.1 with
      | none => rw [el] at z; cases z
      | some b => rw [el] at z; rw [of_decide_eq_true z]
    have back : ∀ k ∈ (wsOf ns m2).map (·.1), k ∈ (wsOf ns m).map (·.1) := fun k hk => by
      by_cases c : k ∈ (wsOf ns m).map (·.1)
      · exact c
      · exfalso
        have z := nodup_le (List.nodup_cons.mpr ⟨c, nd1⟩) (ys := (wsOf ns m2).map (·.1)) fun x hx => by
          rcases List.mem_cons.mp hx with rfl | hx
          · exact hk
          · obtain ⟨e, he, rfl⟩ := List.mem_map.mp hx
            exact List.mem_map.mpr ⟨_, look_in (there e he), rfl⟩
        rw [List.length_cons, List.length_map, List.length_map] at z
        omega
    have eqw : ∀ x y, x ∈ spots ns → y ∈ spots ns → x ≠ y → W (codeM m) (spots ns) x y = W (codeM m2) (spots ns) x y := fun x y hx hy hxy => by
      have hp : (x, y) ∈ prsOf (spots ns) := prsOf_iff.mpr ⟨hx, hy, hxy⟩
      have e1 := look_ways (c := codeM m) hd.nd hp
      have e2 := look_ways (c := codeM m2) hd.nd hp
      cases w1 : W (codeM m) (spots ns) x y with
      | some k =>
        have z := there _ (waysL_in (p := (x, y)) hp w1)
        have z : look (wsOf ns m2) (x, y) = some (boundC k) := z
        rw [e2] at z
        cases w2 : W (codeM m2) (spots ns) x y with
        | none => rw [w2] at z; cases z
        | some k2 =>
          rw [w2] at z
          have z3 := congrArg codeB (Option.some.inj z)
          rw [code_bound, code_bound] at z3
          rw [z3]
      | none =>
        cases w2 : W (codeM m2) (spots ns) x y with
        | none => rfl
        | some k2 =>
          exfalso
          have hk := back (x, y) (List.mem_map.mpr ⟨_, waysL_in (p := (x, y)) hp w2, rfl⟩)
          obtain ⟨e, he, ee⟩ := List.mem_map.mp hk
          obtain ⟨_, k, ek, _⟩ := waysL_key he
          rw [ee, w1] at ek
          cases ek
    constructor
    · rw [edge_le hE2]
      intro x y hx hy hxy
      rw [wm_ways hxy, eqw x y hx hy hxy, ← wm_ways hxy]
      exact WM_edge hE2 hb2 x y
    · rw [edge_le hE]
      intro x y hx hy hxy
      rw [wm_ways hxy, ← eqw x y hx hy hxy, ← wm_ways hxy]
      exact WM_edge hE hb x y
  · rintro ⟨h1, h2⟩
    have eqw : ∀ x y, WM (codeM m) (spots ns) x y = WM (codeM m2) (spots ns) x y := fun x y => leC_anti (le_ways hE hb h1 x y) (le_ways hE2 hb2 h2 x y)
    have el : wsOf ns m = wsOf ns m2 := by
      have go : ∀ ps : List Pr, (∀ p ∈ ps, p.1 ≠ p.2) → waysL (codeM m) (spots ns) ps = waysL (codeM m2) (spots ns) ps := by
        intro ps
        induction ps with
        | nil => exact fun _ => rfl
        | cons p ps ih =>
          intro hp
          have e1 := eqw p.1 p.2
          rw [wm_ways (hp p List.mem_cons_self), wm_ways (hp p List.mem_cons_self)] at e1
          unfold waysL at ih ⊢
          rw [List.flatMap_cons, List.flatMap_cons, e1, ih fun q hq => hp q (List.mem_cons_of_mem _ hq)]
      exact go _ fun p hp => (prs_spots hp).2.2
    rw [el]
    unfold sameM
    rw [Bool.and_eq_true]
    refine ⟨by simp, List.all_eq_true.mpr fun e he => ?_⟩
    rw [look_of (waysL_nd (prsOf_nd hd.nd hd.nd)) he]
    exact decide_eq_true rfl
theorem alike_ways {ns : List Str} {m m2 : List (Pr × Bd)} (hd : Drawn ns) (hg : GoodB (spots ns) m) (hg2 : GoodB (spots ns) m2) :
    (withinB ns (tabM ns m) (tabM ns m2) && withinB ns (tabM ns m2) (tabM ns m)) = eqW (optW ns m) (optW ns m2) := by
  rw [within_lies hd hg hg2, within_lies hd hg2 hg]
  unfold optW
  by_cases hb : LawBad (codeM m) (spots ns)
  · by_cases hb2 : LawBad (codeM m2) (spots ns)
    · rw [if_pos hb, if_pos hb2]
      rfl
    · rw [if_pos hb, if_neg hb2, Bool.eq_iff_iff, Bool.and_eq_true, lies_iff hd hg]
      exact ⟨fun z => absurd hb (lw_good (edge_good hg2) hb2 z.2), fun z => nomatch z⟩
  · by_cases hb2 : LawBad (codeM m2) (spots ns)
    · rw [if_neg hb, if_pos hb2, Bool.eq_iff_iff, Bool.and_eq_true, lies_iff hd hg2]
      exact ⟨fun z => absurd hb2 (lw_good (edge_good hg) hb z.1), fun z => nomatch z⟩
    · rw [if_neg hb, if_neg hb2, Bool.eq_iff_iff, Bool.and_eq_true, lies_iff hd hg2, lies_iff hd hg]
      exact (same_lw hd hg hg2 hb hb2).symm
end Rw
set_option Elab.async false
set_option linter.all false
set_option maxRecDepth 100000
set_option maxHeartbeats 4000000
namespace Rw
section
open PySem PySem.W PySem.Calls PyProof.Rows PyProof.V PySem.Spec PySem.SeqAt MeetsSeq MeetsSeq2 MeetsSeq3
variable {prog : Program} {w : World} {A : Around} {E : Value → Shared → Prop} {s : Shared} {Q : Value → Shared → Prop}
theorem none_eq_ref (l : Addr) : Gives (Builtin.«NoneType.__eq__» ⟨[.none, .ref l], []⟩) (.val (Value.notImplemented)) :=
  .of_wp fun M A E s Q h => by
    obtain ⟨h1, g1, d1, t1, o1⟩ := s
    wp_walk
    exact ⟨_, rfl, h⟩
theorem dict_eq_none {a : Addr} (ha : s.TypeIs (.ref a) "dict") (h : Q .notImplemented s) : wpAny (model prog w) A (call (.builtin "dict.__eq__") [.ref a, .none]) Q E s := by
  refine wpAny_call_entry PySem.F.slot_dict_eq ha PySem.F.entry_dict_eq ?_ (PySem.F.args_dict_eq_2 _ _)
  show wpAny _ _ (Builtin.Dict.dictSlotArgs "__eq__" ⟨[.ref a, .none], []⟩ >>= fun p => _) _ _ s
  unfold Builtin.Dict.dictSlotArgs
  refine wpAny_bind (wpAny_bind (wpAny_notOrdered_dict ha ?_))
  show wpAny _ A.in1 (pure ((.ref a : Value), (.none : Value))) _ E s
  refine wpAny_pure (wpAny_bind ?_)
  refine wpAny_isInstance (T := "NoneType") (s := s) rfl PySem.F.sub_NoneType_dict ?_
  simp only [Bool.not_false, if_true]
  exact wpAny_bind (wpAny_rule (wpAny_pure ⟨Value.notImplemented, rfl, h⟩))
theorem rc_none_dict {a : Addr} (ha : s.TypeIs (.ref a) "dict") (hu : A.units < cLine) (h : Q (.bool false) s) : wpAny (model prog w) A (richCompare .Eq .none (.ref a)) Q E s :=
  rc_eq_decline_or (Ta := "NoneType") (Tb := "dict") (k := false) rfl ha (by decide) F.sub_dict_NoneType F.slot_NoneType_eq F.slot_dict_eq_refl
    (fun Q' h' => call_gives F.slot_NoneType_eq rfl F.entry_NoneType_eq (F.args_NoneType_eq_2 _ _) (none_eq_ref a) h') (fun Q' h' => dict_eq_none ha h') (fun Q' h' => wpAny_pure h') (.inr hu) h
theorem rc_dict_none {a : Addr} (ha : s.TypeIs (.ref a) "dict") (hu : A.units < cLine) (h : Q (.bool false) s) : wpAny (model prog w) A (richCompare .Eq (.ref a) .none) Q E s :=
  rc_eq_decline_or (Ta := "dict") (Tb := "NoneType") (k := false) ha rfl (by decide) F.sub_NoneType_dict F.slot_dict_eq F.slot_NoneType_eq_refl
    (fun Q' h' => dict_eq_none ha h') (fun Q' h' => call_gives F.slot_NoneType_eq_refl rfl F.entry_NoneType_eq (F.args_NoneType_eq_2 _ _) (none_eq_ref a) h') (fun Q' h' => wpAny_pure h') (.inr hu) h
end
section
open PySem L2
def rEqO (K : PySem.W.Frag) : R2 := fun x y H Q => (x = .non ∧ y = .non ∧ Q (.bl true) H) ∨ (∃ (a : Addr) (kvs : List (List Key × V)), H a = some (.dT kvs) ∧ ((x = .non ∧ y = .ref a) ∨ (x = .ref a ∧ y = .non)) ∧ Q (.bl false) H) ∨ rEqDT K x y H Q
theorem op_eqO {X : Cx} (hu : X.A.units + 66 < cLine) : OpR X (PySem.compareOp .Eq) (rEqO X.K) := by
  intro pins s σ H x y v u Q I rx ry h
  rcases h with ⟨rfl, rfl, q⟩ | ⟨a, kvs, ha, h, q⟩ | h
  · cases (show v = PySem.Value.none from rx)
    cases (show u = PySem.Value.none from ry)
    exact PySem.EqNone.eq_none_none (fin_bl I q rfl)
  · obtain ⟨_, _, xs, _, dd⟩ := dt_of I.hok ha
    rcases h with ⟨rfl, rfl⟩ | ⟨rfl, rfl⟩
    · cases (show v = PySem.Value.none from rx)
      cases (show u = PySem.Value.ref a from ry)
      exact rc_none_dict dd.typeIs (by omega) (fin_bl I q rfl)
    · cases (show v = PySem.Value.ref a from rx)
      cases (show u = PySem.Value.none from ry)
      exact rc_dict_none dd.typeIs (by omega) (fin_bl I q rfl)
  · exact op_eq_dT hu pins s σ H x y v u Q I rx ry h
/-- what the dicts' == tells -/
theorem agV_of {K : PySem.W.Frag} {H : Hp} {w2 : List (Pr × Bd)} {ls : List (List Key × V)} (h2 : Paired (fun e kv => kv.1 = key2 e.1 ∧ RB H kv.2 e.2) w2 ls) : ∀ {w1 : List (Pr × Bd)} {ks : List (List Key × V)}, Paired (fun e kv => kv.1 = key2 e.1 ∧ RB H kv.2 e.2) w1 ks →
    AgV K H ls ks (w1.all fun e => match look w2 e.1 with | none => false | some b => decide (e.2 = b)) ∨ (∃ e ∈ w1, look w2 e.1 = none ∧ AgV K H ls ks false)
  | _, _, .nil => .inl .done
  | e :: w1, kv :: ks, .cons h t => by
    rcases pl_look (R := fun v b => RB H v b) e.1 h2 with ⟨g1, g2⟩ | ⟨b, v, g1, g2, g3⟩
    · refine .inr ⟨e, List.mem_cons_self, g1, .lack ?_⟩
      rw [h.1]
      exact g2
    · rw [List.all_cons, g1]
      have hv : valV ls kv.1 = some v := by rw [h.1]; exact g2
      rcases agV_of h2 t with z | ⟨e', he', z1, z2⟩
      · left
        have y := AgV.meet (K := K) (x := kv) hv h.2.dp g3.dp (bdN_shaped _) (bdN_shaped _) z
        rw [bdN_eqv] at y
        exact y
      · right
        have y := AgV.meet (K := K) (x := kv) hv h.2.dp g3.dp (bdN_shaped _) (bdN_shaped _) z2
        rw [Bool.and_false] at y
        exact ⟨e', List.mem_cons_of_mem _ he', z1, y⟩
theorem eqO_of {K : PySem.W.Frag} {H : Hp} {v u : V} {o1 o2 : Option (List (Pr × Bd))} {Q : VK} (h1 : OptD H v o1) (h2 : OptD H u o2) (q : Q (.bl (eqW o1 o2)) H) : rEqO K v u H Q := by
  rcases h1 with ⟨rfl, rfl⟩ | ⟨r1, w1, rfl, rfl, ⟨k1, e1, p1⟩, _⟩
  · rcases h2 with ⟨rfl, rfl⟩ | ⟨r2, w2, rfl, rfl, ⟨k2, e2, p2⟩, _⟩
    · exact .inl ⟨rfl, rfl, q⟩
    · exact .inr (.inl ⟨r2, k2, e2, .inl ⟨rfl, rfl⟩, q⟩)
  · rcases h2 with ⟨rfl, rfl⟩ | ⟨r2, w2, rfl, rfl, ⟨k2, e2, p2⟩, _⟩
    · exact .inr (.inl ⟨r1, k1, e1, .inr ⟨rfl, rfl⟩, q⟩)
    · right
      right
      have l1 : k1.length = w1.length := (Paired.length p1).symm
      have l2 : k2.length = w2.length := (Paired.length p2).symm
      rcases agV_of (K := K) p2 p1 with z | ⟨e, he, z1, z2⟩
      · refine ⟨r1, r2, k1, k2, _, rfl, rfl, e1, e2, z, ?_⟩
        rw [l1, l2]
        exact q
      · refine ⟨r1, r2, k1, k2, _, rfl, rfl, e1, e2, z2, ?_⟩
        have ez : sameM w1 w2 = false := by
          unfold sameM
          rw [Bool.and_eq_false_iff]
          right
          rw [Bool.eq_false_iff]
          intro al
          have y := List.all_eq_true.mp al e he
          rw [z1] at y
          cases y
        have q : Q (.bl (sameM w1 w2)) H := q
        rw [ez] at q
        rw [Bool.and_false]
        exact q
end
end Rw
set_option Elab.async false
set_option linter.all false
set_option maxRecDepth 100000
set_option maxHeartbeats 4000000
namespace Rw
open PySem L2
abbrev sLaw : Stmt := top 65
def nLaw : List Str := ["_law_script", "_law_turn", "_law_pool_here", "_law_names_here", "_law_bounds", "_law_ones", "_law_ways_here", "_law_more_here", "_law_further", "_law_one_here", "_law_other_here", "_law_odd", "_law_found", "_law_wrong", "_law_name"]
theorem scLaw : FnScope nLaw ["_law_script"] (defScope sLaw) := ⟨rfl, rfl, rfl, by decide +kernel, rfl, by decide +kernel, by decide +kernel⟩
abbrev lawFor : List Stmt := match defBody sLaw with
  | .For _ _ b _ _ :: _ => b
  | _ => []
abbrev qLam : Str := "law.<locals>.<lambda>"
theorem five3 {k : Nat} {v : V} (h : [V.int 1, V.int 2, V.int 2, V.int 3, V.int 3][k]? = some v) : ∃ m : Nat, v = .int m ∧ 0 < m ∧ m ≤ 4 := by
  match k, h with
  | 0, h => cases h; exact ⟨1, rfl, by decide, by decide⟩
  | 1, h => cases h; exact ⟨2, rfl, by decide, by decide⟩
  | 2, h => cases h; exact ⟨2, rfl, by decide, by decide⟩
  | 3, h => cases h; exact ⟨3, rfl, by decide, by decide⟩
  | 4, h => cases h; exact ⟨3, rfl, by decide, by decide⟩
  | k + 5, h => cases h
theorem optW_of {ns : List Str} {m : List (Pr × Bd)} {v : V} {H : Hp} (hd : Drawn ns) (h : WaysV ns m v H) : OptD H v (optW ns m) := by
  unfold optW
  rcases h with ⟨hb, rfl⟩ | ⟨hb, r, rfl, hD⟩
  · rw [if_pos hb]
    exact .inl ⟨rfl, rfl⟩
  · rw [if_neg hb]
    exact .inr ⟨r, _, rfl, rfl, hD, waysL_mk, waysL_nd (prsOf_nd hd.nd hd.nd), Nat.le_trans (wsOf_few hd.few) (by decide)⟩
theorem optW_good {ns : List Str} {m mw : List (Pr × Bd)} (hd : Drawn ns) (h : optW ns m = some mw) : GoodB (spots ns) mw := by
  unfold optW at h
  by_cases hb : LawBad (codeM m) (spots ns)
  · rw [if_pos hb] at h
    cases h
  · rw [if_neg hb] at h
    cases h
    exact ⟨waysL_nd (prsOf_nd hd.nd hd.nd), fun e he => ⟨(waysL_key he).1, trivial, trivial, waysL_mk e he⟩⟩
/-- what is drawn at each turn -/
structure LCore (K : PySem.W.Frag) (C : Addr) (H0 : Hp) (p l d on e t t2 : Addr) (v v2 : V) (ns : List Str) (m m2 : List (Pr × Bd)) (H : Hp) : Prop where
  s0 : Same H0 H
  hp : H0 p = none
  hl : H l = some (.lst (ns.map V.str))
  hon : H on = some (.lst ((spots ns).map V.str))
  hd : Drawn ns
  h0 : 0 < ns.length
  h4 : ns.length ≤ 4
  g1 : GoodB (spots ns) m
  g2 : GoodB (spots ns) m2
  d1 : DT RB H d m
  d2 : DT RB H e m2
  tab : Tab K C H t ns (tabM ns m)
  tab2 : Tab K C H t2 ns (tabM ns m2)
  w1 : OptD H v (optW ns m)
  w2 : OptD H v2 (optW ns m2)
  n1 : v ≠ .ref e
  n2 : v2 ≠ .ref d
theorem LCore.same {K : PySem.W.Frag} {C : Addr} {H0 H H' : Hp} {p l d on e t t2 : Addr} {v v2 : V} {ns : List Str} {m m2 : List (Pr × Bd)} (c : LCore K C H0 p l d on e t t2 v v2 ns m m2 H) (s : Same H H') : LCore K C H0 p l d on e t t2 v v2 ns m m2 H' :=
  ⟨c.s0.trans s, c.hp, s _ _ c.hl, s _ _ c.hon, c.hd, c.h0, c.h4, c.g1, c.g2, c.d1.sameB s, c.d2.sameB s, c.tab.same s, c.tab2.same s, c.w1.same s, c.w2.same s, c.n1, c.n2⟩
section
variable {P : Program} {w : World} {K : PySem.W.Frag} {mg : Str → Option Value} {base : Heap}
def spWays3 (K : PySem.W.Frag) : Sp := fun vs H Q _ => ∃ (d l : Addr) (m : List (Pr × Bd)) (ns : List Str), vs = [.ref d, .ref l] ∧ DT RB H d m ∧ Mk m ∧ SqL K H l ((spots ns).map V.str) ∧ (spots ns).Nodup ∧ (spots ns).length ≤ 5 ∧ ∀ v H', Same H H' → WaysV ns m v H' → (∀ a, v = .ref a → H a = none) → Q v H'
theorem ways3 : ∀ (vs : List V) (H : Hp) (Q : VK) (E : XK), spWays3 K vs H Q E → spWays K vs H Q E := by
  rintro vs H Q E ⟨d, l, m, ns, e, hD, hm, hS, hn, hl, q⟩
  exact ⟨d, l, m, spots ns, e, hD, hm, hS, hn, hl, fun hb H' s => q _ _ s (.inl ⟨hb, rfl⟩) fun _ z => (nomatch z), fun hb r H' hr s h => q _ _ s (.inr ⟨hb, r, rfl, h⟩) fun a z => by cases z; exact hr⟩
def AtL (K : PySem.W.Frag) (C : Addr) (H0 : Hp) (a : Addr) (k n : Nat) (σ : L2.St) (H : Hp) : Prop := ∃ (p l d on e t t2 : Addr) (v v2 : V) (ns : List Str) (m m2 : List (Pr × Bd)) (u11 u12 u13 u14 : Option V),
  σ = [some (.ref a), some (.int k), some (.ref p), some (.ref l), some (.ref d), some (.ref on), some v, some (.ref e), some v2, some (.ref t), some (.ref t2), u11, u12, u13, u14] ∧ Pool H p n ∧ LCore K C H0 p l d on e t t2 v v2 ns m m2 H
theorem rd_law1 {fl fC fP fN fO fD fT fW fR : Addr} {dC dP dN dO dD dT dW dR : FuncData} {cdv : Value} {A : Around} {outer : List Env} {s : Shared} {Hb : Hp} {E : XK} {C : Addr}
    (gC : Got P w K mg base CX0 1 "_law_cell" ["_law_script", "_law_k"] (spCell K) fC dC) (gP : Got P w K mg base CX0 1 "_law_pool" ["_law_cell_here"] spPool fP dP) (gN : Got P w K mg base CX0 3 "_law_names" ["_law_pool_here", "_law_many"] spNames fN dN)
    (gO : Got P w K mg base CX0 2 "_law_one" ["_law_pool_here", "_law_things"] (spOne K) fO dO) (gD : Got P w K mg base CX0 3 "_law_drawn" ["_law_pool_here", "_law_names_here"] (spDrawn K) fD dD) (gT : Got P w K mg base CX0 6 "_law_table" nTable (spTable K C) fT dT)
    (gW : Got P w K mg base CX0 8 "_law_ways" ["_law_bounds", "_law_ones"] (spWays3 K) fW dW) (gR : Got P w K mg base CX0 4 "_law_other" ["_law_pool_here", "_law_names_here", "_law_bounds", "_law_ways_here"] (spOther K) fR dR)
    (hr : Room 12 (A.deeper (PyProof.Rows.envOfC "law" (defScope sLaw) s.heap.objs.size fl cdv))) {u : TS}
    (hu : PSs (cxOf CX0 P w K mg base nLaw "law" (defScope sLaw) fl cdv A outer s Hb E).nox (lawFor.drop 7) u) :
    ∃ t, PSs (cxOf CX0 P w K mg base nLaw "law" (defScope sLaw) fl cdv A outer s Hb E).nox lawFor t ∧
      ∀ (D : Ends) (H : Hp) (a : Addr) (k : Nat) (zs : List Int) (u2 u3 u4 u5 u6 u7 u8 u9 u10 u11 u12 u13 u14 : Option V), SqL K H a (zs.map V.int) → zs.length ≤ 63 → (∀ σ' H', AtL K C H a k 30000 σ' H' → u D σ' H') →
        t D [some (.ref a), some (.int k), u2, u3, u4, u5, u6, u7, u8, u9, u10, u11, u12, u13, u14] H := by
  refine ⟨_, pss_cons (ps_set (i := 2) scLaw.nd rfl (Or.inl rfl) (pe_call gP.G (hr.mono (by decide)) rfl gP.m gP.k gP.b .nil pass0 (pa_cons (pe_op op_add (pe_call gC.G (hr.mono (by decide)) rfl gC.m gC.k gC.b .nil pass0 (pa_cons (pv 0) (pa_cons (pv 1) pa_nil))) (pv 1)) pa_nil)))
    (pss_cons (ps_set (i := 3) scLaw.nd rfl (Or.inl rfl) (pe_call gN.G (hr.mono (by decide)) rfl gN.m gN.k gN.b .nil pass0 (pa_cons (pv 2) (pa_cons (pe_call gO.G (hr.mono (by decide)) rfl gO.m gO.k gO.b .nil pass0 (pa_cons (pv 2) (pa_cons (pe_lst (pa_cons pe_int (pa_cons pe_int (pa_cons pe_int (pa_cons pe_int (pa_cons pe_int pa_nil)))))) pa_nil))) pa_nil))))
    (pss_cons (ps_asg (pe_tup (pa_cons (pe_call gD.G (hr.mono (by decide)) rfl gD.m gD.k gD.b .nil pass0 (pa_cons (pv 2) (pa_cons (pv 3) pa_nil))) (pa_cons (pe_op op_cat (pe_lst (pa_cons pe_str pa_nil)) (pv 3)) pa_nil)))
        (pg_tup rfl (pgs_cons (pg_name (i := 4) scLaw.nd rfl (Or.inl rfl)) (pgs_cons (pg_name (i := 5) scLaw.nd rfl (Or.inr rfl)) pgs_nil))))
    (pss_cons (ps_set (i := 6) scLaw.nd rfl (Or.inl rfl) (pe_call gW.G (hr.mono (by decide)) rfl gW.m gW.k gW.b .nil pass0 (pa_cons (pv 4) (pa_cons (pv 5) pa_nil))))
    (pss_cons (ps_set (i := 7) scLaw.nd rfl (Or.inl rfl) (pe_call gR.G (hr.mono (by decide)) rfl gR.m gR.k gR.b .nil pass0 (pa_cons (pv 2) (pa_cons (pv 3) (pa_cons (pv 4) (pa_cons (pv 6) pa_nil))))))
    (pss_cons (ps_set (i := 8) scLaw.nd rfl (Or.inl rfl) (pe_call gW.G (hr.mono (by decide)) rfl gW.m gW.k gW.b .nil pass0 (pa_cons (pv 7) (pa_cons (pv 5) pa_nil))))
    (pss_cons (ps_asg (pe_tup (pa_cons (pe_call gT.G (hr.mono (by decide)) rfl gT.m gT.k gT.b .nil pass0 (pa_cons (pv 2) (pa_cons (pv 3) (pa_cons (pv 4) pa_nil)))) (pa_cons (pe_call gT.G (hr.mono (by decide)) rfl gT.m gT.k gT.b .nil pass0 (pa_cons (pv 2) (pa_cons (pv 3) (pa_cons (pv 7) pa_nil)))) pa_nil)))
        (pg_tup rfl (pgs_cons (pg_name (i := 9) scLaw.nd rfl (Or.inr rfl)) (pgs_cons (pg_name (i := 10) scLaw.nd rfl (Or.inl rfl)) pgs_nil)))) hu)))))), ?_⟩
  intro D H a k zs u2 u3 u4 u5 u6 u7 u8 u9 u10 u11 u12 u13 u14 hS hl63 q
  -- the pool
  refine ⟨_, rfl, _, rfl, a, zs, k, rfl, hS, hl63, fun z H1 s1 => ⟨_, rfl, _, _, rfl, rfl, _, rfl, fun p H2 hp1 s2 hP => ?_⟩⟩
  have s12 := s1.trans s2
  have hp : H p = none := s1.free hp1
  clear s1 s2 hp1
  generalize ez : (z + (k : Int)) = z' at *
  clear ez
  -- the names
  refine ⟨_, rfl, _, rfl, (by show 5 ≤ sizeLine; decide), fun a3 h3 => ?_⟩
  have n3 := hP.apart h3
  have s3 := same_new h3 (.lst [V.int 1, V.int 2, V.int 2, V.int 3, V.int 3])
  refine ⟨p, a3, _, 0, rfl, hP.new h3, by decide, .inl (SqL.of upd_same), n3, Nat.succ_pos _, (by show 5 ≤ 10000; decide), fun i v o hv hP4 => ?_⟩
  obtain ⟨mm, rfl, m0, m4⟩ := five3 hv
  have s4 : Same H (upd (upd H2 a3 (.lst [V.int 1, V.int 2, V.int 2, V.int 3, V.int 3])) p o) := same_but (s12.trans s3) hp but_upd
  generalize upd (upd H2 a3 (.lst [V.int 1, V.int 2, V.int 2, V.int 3, V.int 3])) p o = H4 at hP4 s4
  refine ⟨p, mm, _, rfl, hP4, by decide, by omega, fun ns l H5 nd5 sub5 len5 hl5 b5 hP5 e5 => ?_⟩
  have hd : Drawn ns := drawn_of nd5 sub5 (by omega)
  have s5 := same_but s4 hp b5
  have nlp := lst_apart e5 hP5
  clear s12 s3 h3 n3 hv
  -- the bounds
  refine ⟨_, rfl, _, rfl, p, l, ns, _, rfl, hP5, by decide, SqL.of e5, nlp, hd.few, hd.nd, fun m d H6 hg hd6 b6 hP6 hD6 => ?_⟩
  have s6 := same_but s5 hp b6
  have e6 := b6 _ _ e5 nlp
  -- the spots
  refine ⟨(by show 1 ≤ sizeLine; decide), fun a8 h8 => ⟨_, rfl, ?_⟩⟩
  have s8 := same_new h8 (.lst [V.str ""])
  refine ⟨a8, l, _, _, rfl, rfl, upd_same, s8 _ _ e6, (by rw [List.length_map]; exact Nat.le_trans (show _ ≤ 100 by show 1 + ns.length ≤ 100; omega) (by decide)), fun on h9 => ?_⟩
  have s9 := s8.trans (same_new h9 (.lst ([V.str ""] ++ ns.map V.str)))
  have e9 : upd (upd H6 a8 (.lst [V.str ""])) on (.lst ([V.str ""] ++ ns.map V.str)) on = some (.lst ((spots ns).map V.str)) := upd_same
  generalize upd (upd H6 a8 (.lst [V.str ""])) on (.lst ([V.str ""] ++ ns.map V.str)) = H9 at s9 e9
  refine ⟨(by show 2 ≤ sizeLine; decide), fun tp htp => ⟨tp, _, rfl, SqT.of upd_same, rfl, _, _, rfl, _, _, rfl, rfl, ?_⟩⟩
  have s10 := s9.trans (same_new htp (.tup [.ref d, .ref on]))
  have e10 := same_new htp (.tup [.ref d, .ref on]) _ _ e9
  generalize upd H9 tp (.tup [.ref d, .ref on]) = H10 at s10 e10
  have hP10 := hP6.same s10
  have hD10 := hD6.sameB s10
  have l10 := s10 _ _ e6
  have z10 := s6.trans s10
  clear s8 s9 e9 h8 h9 htp
  -- the ways
  refine ⟨_, rfl, _, rfl, d, on, m, ns, rfl, hD10, hg.mk, SqL.of e10, hd.nd, (by rw [List.length_cons]; omega), fun v H11 s11 hW _ => ?_⟩
  have hO11 := optW_of hd hW
  have hP11 := hP10.same s11
  -- other bounds
  refine ⟨_, rfl, _, rfl, _, rfl, _, rfl, p, l, d, v, _, ns, m, optW ns m, rfl, hP11, by decide, s11 _ _ l10, hd, by omega, hD10.sameB s11, hg, hO11, fun mw e => optW_good hd e, fun e H12 m2 he12 b12 hP12 hD12 hg2 => ?_⟩
  have nve : v ≠ .ref e := fun z => by
    rcases hO11 with ⟨_, zz⟩ | ⟨r, mw, _, zz, ⟨kv, ek, _⟩, _⟩
    · rw [zz] at z; cases z
    · rw [zz] at z
      cases z
      rw [he12] at ek
      cases ek
  have b1012 : But p H10 H12 := (But.of s11).trans b12
  have hO12 := hO11.but hP11 b12
  have on12 : H12 on = some (.lst ((spots ns).map V.str)) := b1012 _ _ e10 (lst_apart e10 hP10)
  have l12 := b1012 _ _ l10 nlp
  have hD12' := hD10.but hP10 b1012
  have z12 := same_but z10 hp b1012
  clear hW hP10 hD10 l10 z10 e10 s11 hO11 b12 hP11
  refine ⟨_, rfl, _, rfl, e, on, m2, ns, rfl, hD12, hg2.mk, SqL.of on12, hd.nd, (by rw [List.length_cons]; omega), fun v2 H13 s13 hW2 hfr => ?_⟩
  have hO13 := optW_of hd hW2
  have nvd : v2 ≠ .ref d := fun z => by
    obtain ⟨kv, ek, _⟩ := hD12'
    rw [hfr d z] at ek
    cases ek
  have hP13 := hP12.same s13
  -- the tables
  refine ⟨_, rfl, _, rfl, _, rfl, p, l, d, ns, m, _, rfl, hP13, by decide, SqL.of (s13 _ _ l12), nlp, hd, hD12'.sameB s13, hg, fun t H14 ht14 b14 hP14 hT14 => ?_⟩
  refine ⟨_, rfl, _, rfl, _, rfl, p, l, e, ns, m2, _, rfl, hP14, by decide, SqL.of (b14 _ _ (s13 _ _ l12) nlp), nlp, hd, (hD12.sameB s13).but hP13 b14, hg2, fun t2 H15 ht15 b15 hP15 hT15 => ?_⟩
  refine ⟨(by show 2 ≤ sizeLine; decide), fun tq htq => ⟨tq, _, rfl, SqT.of upd_same, rfl, _, _, rfl, _, _, rfl, rfl, ?_⟩⟩
  have s16 := same_new htq (.tup [.ref t, .ref t2])
  have b1215 : But p H12 H15 := (But.of s13).trans (b14.trans b15)
  have b1315 : But p H13 H15 := b14.trans b15
  refine q _ _ ⟨p, l, d, on, e, t, t2, v, v2, ns, m, m2, u11, u12, u13, u14, rfl, (hP15.same s16).mono (by decide), ⟨(same_but z12 hp b1215).trans s16, hp, s16 _ _ (b1215 _ _ l12 nlp), s16 _ _ (b1215 _ _ on12 (lst_apart on12 hP12)), hd, by omega, by omega, hg, hg2, (hD12'.but hP12 b1215).sameB s16, (hD12.but hP12 b1215).sameB s16,
    (hT14.but hP14 b15).same s16, hT15.same s16, (hO12.but hP12 b1215).same s16, (hO13.but hP13 b1315).same s16, nve, nvd⟩⟩
end
end Rw
set_option Elab.async false
set_option linter.all false
set_option maxRecDepth 100000
set_option maxHeartbeats 4000000
namespace Rw
open PySem L2
theorem eqV_str {x y : Str} : eqV (.str x) (.str y) = decide (x = y) := by
  have h := inV_str (z := y) (ns := [x])
  have e1 : inV (.str y) [V.str x] = (eqV (.str x) (.str y) || false) := rfl
  have e2 : inV (.str y) (([x] : List Str).map V.str) = inV (.str y) [V.str x] := rfl
  rw [e2, e1, Bool.or_false] at h
  rw [h, Bool.eq_iff_iff]
  simp only [decide_eq_true_eq, List.mem_singleton]
  exact eq_comm
theorem eqV_self {a : Str} : eqV (.str a) (.str a) = true := by rw [eqV_str]; exact decide_eq_true rfl
/-! ### what stays when tables of code objects grow -/
section
variable {K : PySem.W.Frag} {H H' : Hp}
theorem sqL_ext {a : Addr} {xs : List V} (e : LamX.ExtN H H') (h : SqL K H a xs) : SqL K H' a xs := by
  rcases h with (h | ⟨o, h⟩) | h
  · exact .inl (.inl (e _ _ h fun _ z => nomatch z))
  · exact .inl (.inr ⟨o, e _ _ h fun _ z => nomatch z⟩)
  · exact .inr h
theorem sqT_ext {a : Addr} {xs : List V} (e : LamX.ExtN H H') (h : SqT K H a xs) : SqT K H' a xs := by
  rcases h with (h | ⟨o, h⟩) | h
  · exact .inl (.inl (e _ _ h fun _ z => nomatch z))
  · exact .inl (.inr ⟨o, e _ _ h fun _ z => nomatch z⟩)
  · exact .inr h
theorem Seq.ext {a : Addr} {xs : List V} (e : LamX.ExtN H H') (h : Seq K H a xs) : Seq K H' a xs := h.elim (fun z => .inl (sqL_ext e z)) fun z => .inr (sqT_ext e z)
theorem Tab.ext {C t : Addr} {ns : List Str} {m : List (Pr × Bd)} (e : LamX.ExtN H H') (h : Tab K C H t ns m) : Tab K C H' t ns m := by
  obtain ⟨ok, dx, l, d, e1, e2, kvs, e3, r⟩ := h
  refine ⟨ok, dx, l, d, e _ _ e1 (fun _ z => nomatch z), e _ _ e2 (fun _ z => nomatch z), kvs, e _ _ e3 (fun _ z => nomatch z), Rw.Paired.imp r fun x y _ z => ⟨z.1, ?_⟩⟩
  obtain ⟨a, ea, h⟩ := z.2
  exact ⟨a, ea, sqT_ext e h⟩
theorem Ty.ext {v : V} {n : String} (s : LamX.ExtN H H') (h : Ty K H v n) : Ty K H' v n := by
  obtain ⟨h, m⟩ := h
  refine ⟨?_, m⟩
  cases h with
  | base b =>
    refine .base ?_
    cases b with
    | non => exact .non
    | bl x => exact .bl x
    | int i => exact .int i
    | str x => exact .str x
    | lst e => exact .lst (s _ _ e fun _ z => nomatch z)
    | frz e => exact .frz (s _ _ e fun _ z => nomatch z)
    | tup e => exact .tup (s _ _ e fun _ z => nomatch z)
    | dK e => exact .dK (s _ _ e fun _ z => nomatch z)
    | dT e => exact .dT (s _ _ e fun _ z => nomatch z)
    | flt x => exact .flt x
  | byt b => exact .byt b
  | set e => exact .set (s _ _ e fun _ z => nomatch z)
  | kList e c => exact .kList e c
  | kTuple e c => exact .kTuple e c
  | kDict e c => exact .kDict e c
  | fTuple e => exact .fTuple (s _ _ e fun _ z => nomatch z)
  | fDict e => exact .fDict (s _ _ e fun _ z => nomatch z)
theorem SpotV.ext {ns : List Str} {v : V} {b : Bool} (e : LamX.ExtN H H') (h : SpotV K H ns v b) : SpotV K H' ns v b := h.imp id fun ⟨n, t, z⟩ => ⟨n, t.ext e, z⟩
theorem Pool.ext {p : Addr} {n : Nat} (h : Pool H p n) (s : LamX.ExtN H H') : Pool H' p n := by
  obtain ⟨a, b, c, e, z⟩ := h
  exact ⟨a, b, c, s _ _ e (fun _ z => nomatch z), z⟩
end
/-- what is == itself -/
def Pl (v : V) : Prop := (∃ a, v = .ref a) ∨ (flatV v = true ∧ eqV v v = true)
theorem odd_six {K : PySem.W.Frag} {H : Hp} {ns : List Str} {la dd : Addr} {k : Nat} {o : V} {xs : List V} (hd : Drawn ns) (h1 : H la = some (.lst xs)) (h2 : H dd = some (.dK []))
    (h : [V.str "nosuch", V.non, V.int 5, V.ref la, V.ref dd, V.bl true][k]? = some o) : SpotV K H ns o false := by
  match k, h with
  | 0, h =>
    cases h
    refine .inl ⟨_, rfl, (decide_eq_false fun w => ?_).symm⟩
    rcases List.mem_cons.mp w with w | w
    · exact absurd w (by decide +kernel)
    · exact absurd (hd.sub _ w) (by decide +kernel)
  | 1, h => cases h; exact .inr ⟨"NoneType", ⟨.base .non, .inl rfl⟩, by decide, rfl⟩
  | 2, h => cases h; exact .inr ⟨"int", ⟨.base (.int _), .inr (.inr (.inl rfl))⟩, by decide, rfl⟩
  | 3, h => cases h; exact .inr ⟨"list", ⟨.base (.lst h1), .inr (.inr (.inr (.inr (.inl rfl))))⟩, by decide, rfl⟩
  | 4, h => cases h; exact .inr ⟨"dict", ⟨.base (.dK h2), .inr (.inr (.inr (.inr (.inr (.inr rfl)))))⟩, by decide, rfl⟩
  | 5, h => cases h; exact .inr ⟨"bool", ⟨.base (.bl _), .inr (.inl rfl)⟩, by decide, rfl⟩
  | k + 6, h => cases h
theorem odd_pl {la dd : Addr} {k : Nat} {o : V} (h : [V.str "nosuch", V.non, V.int 5, V.ref la, V.ref dd, V.bl true][k]? = some o) : Pl o := by
  match k, h with
  | 0, h => cases h; exact .inr ⟨rfl, eqV_self⟩
  | 1, h => cases h; exact .inr ⟨rfl, by decide +kernel⟩
  | 2, h => cases h; exact .inr ⟨rfl, by decide +kernel⟩
  | 3, h => cases h; exact .inl ⟨_, rfl⟩
  | 4, h => cases h; exact .inl ⟨_, rfl⟩
  | 5, h => cases h; exact .inr ⟨rfl, by decide +kernel⟩
  | k + 6, h => cases h
theorem passNo {X : Cx} {P : Program} {w : World} : Passes (L2.CX P w) X E0 := fun _ _ _ _ _ _ _ h => by
  obtain ⟨_, _, _, _, _, _, _, _, _, _, _, _, z⟩ := h
  exact z.elim
theorem pe_lamF {X : Cx} {st : Stmt} {fd : FuncData} {T : List (Addr × Str)} {TT : (XK → Hp → VK → Prop) → Hp → VK → Prop} {x a : Str} {g c P : Addr} {k : Nat} {Ng : List Str} {params : Arguments} {body : Expr} {scope : Scope} {t : XK → TE} {p lpos pos : Pos} (FM : Fun X.K x x st g fd) (hb : L2.Binds X.K fd [a] []) (hg : Gl X x) (hm : X.mg x = some (.ref g))
    (Sg : FnScope Ng [a] (defScope st)) (hNg : Ng[0]? = some a) (hva : Vis (defScope st) a) (hG : ∀ cdv, LamX.GivesTo X Ng x (defScope st) g cdv (defBody st) a (X.env.qual ++ "<lambda>") TT)
    (TB : LamX.TabB X.base X.mg c P) (hcode : X.env.code = .ref c) (hT : T = [(P, X.env.qual ++ "<lambda>")]) (hr : Room (k + 2) X.A) (L : LamX.LamS X.env.scope scope) (hdef : defaultsOf params X.env = ([], []))
    (hbind : ∀ (q : Str) (cl : List (Str × Addr)) (pm cv ctv : Value), bindArgs (PySem.W.kla_fn "<lambda>" q params body scope cl pm cv ctv) ⟨[], []⟩ = pure [])
    (hbody : ∀ (A : Around) (outer : List Env) (s : Shared) (H : Hp) (E : XK) (f c' : Addr), Room k (A.deeper (LamX.lamEnv X scope s.heap.objs.size f c')) → PE (LamX.lamCx X A outer s H E scope f c') body (t E))
    (hdb : (x == ("__debug__" : Str)) = false := by decide) (hd : (a == ("__debug__" : Str)) = false := by decide) (hcd : (a == ("__classdict__" : Str)) = false := by decide) :
    PE X (.Call (.Name x p) [.Lambda params body scope lpos] [] pos) (LamX.tLam T TT t) := by
  obtain ⟨oc, od, kV, doc, pm, an, cdv, ct, osl, rfl, lk, hcg⟩ := FM.ex
  subst hT
  exact LamX.pe_lamcall (k := k) hg hm FM.kp lk hcg hb Sg hNg hva (hG cdv) TB hcode (List.mem_singleton.mpr rfl) (fun p hp _ => by cases List.mem_singleton.mp hp; rfl) hr L hdef hbind hbody hdb hd hcd
/-- all but the tables and what stands at p stays -/
def ExtB (p : Addr) (H H' : Hp) : Prop := ∀ b o, H b = some o → (∀ ps, o ≠ .tbl ps) → b ≠ p → H' b = some o
theorem ExtB.trans {p : Addr} {H H1 H2 : Hp} (a : ExtB p H H1) (b : ExtB p H1 H2) : ExtB p H H2 := fun c o h n m => b c o (a c o h n m) n m
theorem ExtB.of {p : Addr} {H H' : Hp} (e : LamX.ExtN H H') : ExtB p H H' := fun b o h n _ => e b o h n
theorem ExtB.but {p : Addr} {H H' : Hp} (e : But p H H') : ExtB p H H' := fun b o h _ n => e b o h n
/-- what was met: pairs of a word and what was kept -/
def Met2 (H : Hp) (f : Addr) (its : List (Str × V)) : Prop := ∃ rs : List Addr, H f = some (.lst (rs.map V.ref)) ∧ Paired (fun (it : Str × V) r => H r = some (.tup [.str it.1, it.2])) its rs
theorem Met2.same {H H' : Hp} {f : Addr} {is : List (Str × V)} (h : Met2 H f is) (s : Same H H') : Met2 H' f is := by
  obtain ⟨rs, e, p⟩ := h
  exact ⟨rs, s _ _ e, Rw.Paired.imp p fun x y _ z => s _ _ z⟩
theorem Met2.ext {H H' : Hp} {f : Addr} {is : List (Str × V)} (h : Met2 H f is) (s : LamX.ExtN H H') : Met2 H' f is := by
  obtain ⟨rs, e, p⟩ := h
  exact ⟨rs, s _ _ e (fun _ z => nomatch z), Rw.Paired.imp p fun x y _ z => s _ _ z fun _ z => nomatch z⟩
theorem tabs_lst {T : List (Addr × Str)} {H : Hp} {f : Addr} {xs ys : List V} (hf : H f = some (.lst xs)) (h : LamX.Tabs T H) : LamX.Tabs T (upd H f (.lst ys)) := fun p hp => by
  obtain ⟨ps, h1, h2, h3⟩ := h p hp
  refine ⟨ps, by rw [upd_ne (ne_of h1 hf fun z => nomatch z)]; exact h1, h2, fun pos cv hc => ?_⟩
  obtain ⟨c, e1, e2⟩ := h3 pos cv hc
  exact ⟨c, e1, by rw [upd_ne (ne_of e2 hf fun z => nomatch z)]; exact e2⟩
/-- the found list as it grows over a fixed base -/
structure Grow (T : List (Addr × Str)) (Hb : Hp) (f : Addr) (is : List (Str × V)) (H : Hp) : Prop where
  ext : LamX.ExtN Hb H
  free : Hb f = none
  tabs : LamX.Tabs T H
  met : Met2 H f is
theorem Grow.same {T : List (Addr × Str)} {Hb H H' : Hp} {f : Addr} {is : List (Str × V)} (g : Grow T Hb f is H) (s : Same H H') : Grow T Hb f is H' := ⟨g.ext.trans (.of s), g.free, g.tabs.ext s, g.met.same s⟩
theorem Grow.more {T : List (Addr × Str)} {Hb H H' : Hp} {f : Addr} {is : List (Str × V)} (g : Grow T Hb f is H) (e : LamX.ExtN H H') (t : LamX.Tabs T H') : Grow T Hb f is H' := ⟨g.ext.trans e, g.free, t, g.met.ext e⟩
theorem Grow.app {T : List (Addr × Str)} {Hb H : Hp} {f r : Addr} {is : List (Str × V)} {wd : Str} {v : V} (g : Grow T Hb f is H) (hr : H r = none) (hl : is.length ≤ 10) :
    ∃ xs, upd H r (.tup [.str wd, v]) f = some (.lst xs) ∧ xs.length < sizeLine ∧ Grow T Hb f (is ++ [(wd, v)]) (upd (upd H r (.tup [.str wd, v])) f (.lst (xs ++ [.ref r]))) := by
  have g1 := g.same (same_new hr (.tup [.str wd, v]))
  have hr1 : upd H r (.tup [.str wd, v]) r = some (.tup [.str wd, v]) := upd_same
  generalize upd H r (.tup [.str wd, v]) = H1 at g1 hr1
  obtain ⟨rs, e, p⟩ := g1.met
  have hlen := Paired.length p
  refine ⟨_, e, small1000 (by rw [List.length_map, ← hlen]; omega), ⟨fun b o h n => ?_, g1.free, tabs_lst e g1.tabs, rs ++ [r], ?_, ?_⟩⟩
  · rw [upd_ne (ne_of_none h g1.free)]
    exact g1.ext b o h n
  · rw [upd_same, List.map_append]
    rfl
  · have keep : ∀ {a : Addr} {ys : List V}, H1 a = some (.tup ys) → upd H1 f (.lst (rs.map V.ref ++ [.ref r])) a = some (.tup ys) := fun h => by
      rw [upd_ne (ne_of h e fun z => nomatch z)]
      exact h
    exact Paired.snoc (Rw.Paired.imp p fun x y _ z => keep z) (keep hr1)
/-! ### other names -/
structure Unl (ns ms : List Str) : Prop where
  nd : (spots ms).Nodup
  good : ∀ x ∈ ms, nameB x = true ∧ x.length ≤ 1000
  sok : ∀ x ∈ ms, PyData.strOk x = true
  few : ms.length ≤ 20
  ne : ns ≠ ms
theorem unl_of {ns ms : List Str} (hd : Drawn ns) (nd : ms.Nodup) (sub : ∀ x ∈ ms, x ∈ ns ∨ x = "q") (hl : ms.length ≤ 20) (ne : ns ≠ ms) : Unl ns ms := by
  have hq : nameB "q" = true := by decide +kernel
  have hs : PyData.strOk "q" = true := by decide +kernel
  refine ⟨List.nodup_cons.mpr ⟨fun h => ?_, nd⟩, fun x hx => ?_, fun x hx => ?_, hl, ne⟩
  · rcases sub _ h with h | h
    · exact absurd (hd.sub _ h) (by decide +kernel)
    · exact absurd h (by decide +kernel)
  · rcases sub x hx with h | h
    · exact ⟨nameB_menu x (hd.sub x h), Nat.le_trans (len_menu x (hd.sub x h)) (by decide)⟩
    · subst h
      exact ⟨hq, by decide +kernel⟩
  · rcases sub x hx with h | h
    · exact strOk_menu x (hd.sub x h)
    · subst h
      exact hs
theorem drawn_nd {ns : List Str} (hd : Drawn ns) : ns.Nodup := (List.nodup_cons.mp hd.nd).2
theorem unl_q {ns : List Str} (hd : Drawn ns) : Unl ns (ns ++ [("q" : Str)]) := by
  have few := hd.few
  refine unl_of hd (List.nodup_append.mpr ⟨drawn_nd hd, List.nodup_cons.mpr ⟨List.not_mem_nil, List.nodup_nil⟩, fun a ha b hb e => ?_⟩) (fun x hx => ?_) ?_ fun e => ?_
  · cases List.mem_singleton.mp hb
    subst e
    exact absurd (hd.sub _ ha) (by decide +kernel)
  · exact (List.mem_append.mp hx).imp id fun h => List.mem_singleton.mp h
  · rw [List.length_append]
    show ns.length + 1 ≤ 20
    omega
  · have := congrArg List.length e
    rw [List.length_append] at this
    have z : ns.length = ns.length + 1 := this
    omega
theorem unl_last {ns : List Str} (hd : Drawn ns) (h0 : 0 < ns.length) : Unl ns (ns.take (ns.length - 1)) := by
  have few := hd.few
  refine unl_of hd ((drawn_nd hd).sublist (List.take_sublist _ _)) (fun x hx => .inl (List.mem_of_mem_take hx)) ?_ fun e => ?_
  · rw [List.length_take]; omega
  · have := congrArg List.length e
    rw [List.length_take] at this
    omega
theorem unl_nil {ns : List Str} (hd : Drawn ns) (h0 : 0 < ns.length) : Unl ns [] := unl_of hd List.nodup_nil (fun x hx => nomatch hx) (by decide) fun e => by
  rw [e] at h0
  exact absurd h0 (by decide)
theorem unl_turn {ns : List Str} (hd : Drawn ns) (h1 : 1 < ns.length) : Unl ns (ns.drop 1 ++ ns.take 1) := by
  have few := hd.few
  have hp : (ns.drop 1 ++ ns.take 1).Perm ns := by
    refine List.perm_append_comm.trans ?_
    rw [List.take_append_drop]
  refine unl_of hd (hp.nodup_iff.mpr (drawn_nd hd)) (fun x hx => .inl (hp.mem_iff.mp hx)) ?_ fun e => ?_
  · rw [hp.length_eq]; omega
  · have nd := drawn_nd hd
    match ns, h1, e, nd with
    | a :: b :: r, _, e, nd =>
      have e : a :: b :: r = b :: (r ++ [a]) := e
      injection e with e1 _
      subst e1
      exact absurd List.mem_cons_self (List.nodup_cons.mp nd).1
theorem cut_less (xs : List V) (h : 0 < xs.length) : cutV xs none (some (-1)) = xs.take (xs.length - 1) := by
  unfold cutV
  have e : HT.sIx xs.length xs.length (some (-1)) = xs.length - 1 := by
    show (if (-1 : Int) < 0 then ((-1 : Int) + (xs.length : Int)).toNat else min (-1 : Int).toNat xs.length) = _
    rw [if_pos (by decide)]
    omega
  rw [e]
  show (xs.drop 0).take (xs.length - 1 - 0) = _
  rw [List.drop_zero, Nat.sub_zero]
/-! ### a base of its own -/
def hid (f : Addr) (H : Hp) : Hp := fun b => if b = f then none else H b
theorem hid_ne {f b : Addr} {H : Hp} (h : b ≠ f) : hid f H b = H b := if_neg h
theorem hid_ext {f : Addr} {H : Hp} : LamX.ExtN (hid f H) H := fun b o h _ => by
  unfold hid at h
  split at h
  · cases h
  · exact h
theorem extB_hid {p f : Addr} {H0 Hb H H' : Hp} (a : ExtB p H0 Hb) (hf : Hb f = none) (e : LamX.ExtN Hb H) (b : But p H H') : ExtB p H0 (hid f H') := fun c o h n hp => by
  have h1 := a c o h n hp
  rw [hid_ne (ne_of_none h1 hf)]
  exact b c o (e c o h1 n) hp
theorem extB_refl {p : Addr} {H : Hp} : ExtB p H H := fun _ _ h _ _ => h
theorem sqT_extB {K : PySem.W.Frag} {H H' : Hp} {p a : Addr} {n : Nat} {xs : List V} (b : ExtB p H H') (hP : Pool H p n) (h : SqT K H a xs) : SqT K H' a xs := by
  obtain ⟨ys, hp⟩ := hP.some
  rcases h with (h | ⟨o, h⟩) | h
  · exact .inl (.inl (b _ _ h (fun _ z => nomatch z) (ne_of h hp fun z => nomatch z)))
  · exact .inl (.inr ⟨o, b _ _ h (fun _ z => nomatch z) (ne_of h hp fun z => nomatch z)⟩)
  · exact .inr h
theorem Tab.extB {K : PySem.W.Frag} {C : Addr} {H H' : Hp} {p t : Addr} {n : Nat} {ns : List Str} {m : List (Pr × Bd)} (h : Tab K C H t ns m) (hP : Pool H p n) (b : ExtB p H H') : Tab K C H' t ns m := by
  obtain ⟨ok, dx, l, d, e1, e2, kvs, e3, r⟩ := h
  obtain ⟨ys, hp⟩ := hP.some
  refine ⟨ok, dx, l, d, b _ _ e1 (fun _ z => nomatch z) (ne_of e1 hp fun z => nomatch z), b _ _ e2 (fun _ z => nomatch z) (lst_apart e2 hP), kvs, b _ _ e3 (fun _ z => nomatch z) (ne_of e3 hp fun z => nomatch z), Rw.Paired.imp r fun x y _ z => ⟨z.1, ?_⟩⟩
  obtain ⟨a, ea, h⟩ := z.2
  exact ⟨a, ea, sqT_extB b hP h⟩
theorem Tab.hide {K : PySem.W.Frag} {C : Addr} {H : Hp} {f t r : Addr} {rs : List V} {ns : List Str} {m : List (Pr × Bd)} (h : Tab K C H t ns m) (hf : H f = some (.lst (V.ref r :: rs))) : Tab K C (hid f H) t ns m := by
  obtain ⟨ok, dx, l, d, e1, e2, kvs, e3, rr⟩ := h
  have nl : l ≠ f := ne_of e2 hf fun z => by
    injection z with z
    cases ns with
    | nil => cases z
    | cons x ns =>
      rw [List.map_cons] at z
      injection z with z _
      cases z
  refine ⟨ok, dx, l, d, (hid_ne (ne_of e1 hf fun z => nomatch z)).trans e1, (hid_ne nl).trans e2, kvs, (hid_ne (ne_of e3 hf fun z => nomatch z)).trans e3, Rw.Paired.imp rr fun x y _ z => ⟨z.1, ?_⟩⟩
  obtain ⟨a, ea, h⟩ := z.2
  refine ⟨a, ea, ?_⟩
  rcases h with (h | ⟨o, h⟩) | h
  · exact .inl (.inl ((hid_ne (ne_of h hf fun z => nomatch z)).trans h))
  · exact .inl (.inr ⟨o, (hid_ne (ne_of h hf fun z => nomatch z)).trans h⟩)
  · exact .inr h
theorem tabs_but {T : List (Addr × Str)} {H H' : Hp} {p : Addr} {n : Nat} (hP : Pool H p n) (b : But p H H') (h : LamX.Tabs T H) : LamX.Tabs T H' := fun q hq => by
  obtain ⟨ps, h1, h2, h3⟩ := h q hq
  obtain ⟨xs, hp⟩ := hP.some
  refine ⟨ps, b _ _ h1 (ne_of h1 hp fun z => nomatch z), h2, fun pos cv hc => ?_⟩
  obtain ⟨c, e1, e2⟩ := h3 pos cv hc
  exact ⟨c, e1, b _ _ e2 (ne_of e2 hp fun z => nomatch z)⟩
theorem Grow.rest {T : List (Addr × Str)} {Hb H H' : Hp} {f p : Addr} {n : Nat} {is : List (Str × V)} (g : Grow T Hb f is H) (hP : Pool H p n) (hne : f ≠ p) (b : But p H H') : Grow T (hid f H') f is H' := by
  refine ⟨hid_ext, if_pos rfl, tabs_but hP b g.tabs, ?_⟩
  obtain ⟨rs, e, pr⟩ := g.met
  obtain ⟨xs, hp⟩ := hP.some
  exact ⟨rs, b _ _ e hne, Rw.Paired.imp pr fun x y _ z => b _ _ z (ne_of z hp fun w => nomatch w)⟩
theorem withIf {tc : TT} {ta tb : TE} {σ : L2.St} {H : Hp} {Q : VK} {R : V → Hp → Prop} (main : ∀ Q' : VK, (∀ v H', R v H' → Q' v H') → tIf tc ta tb σ H Q') (rest : ∀ v H', R v H' → Q v H') : tIf tc ta tb σ H Q := main Q rest
/-- == itself -/
def DPl : Eqv := fun x y H => (∃ a, x = .ref a ∧ y = .ref a) ∨ DFlat x y H
theorem mon_pl : Mon DPl := fun _ _ _ _ _ d => d
theorem eqG_pl {X : Cx} : EqG X 0 DPl := by
  intro A pins s σ H x y u v sb I rx ry d
  rcases d with ⟨a, rfl, rfl⟩ | d
  · cases rx
    cases ry
    exact SeqAt.EqAt.same (A := A) (s := s) (.ref a) X.prog X.w X.xe _ ⟨rfl, H, I, Ext.rfl'⟩
  · exact eqG_flat A pins s σ H x y u v sb I rx ry d
theorem dpl {v : V} {H : Hp} (h : Pl v) : DPl v v H := h.elim (fun ⟨a, e⟩ => .inl ⟨a, e, e⟩) fun ⟨f, e⟩ => .inr ⟨f, f, e⟩
theorem pl_str {x : Str} : Pl (.str x) := .inr ⟨rfl, eqV_self⟩
theorem dt2 {K : PySem.W.Frag} {H : Hp} {a b : Addr} {wd : Str} {v : V} (ha : H a = some (.tup [.str wd, v])) (hb : H b = some (.tup [.str wd, v])) (h : Pl v) : DTup K DPl (.ref a) (.ref b) H :=
  ⟨a, b, _, _, rfl, rfl, SqT.of ha, SqT.of hb, .cons (dpl pl_str) (.cons (dpl h) .nil)⟩
end Rw
set_option Elab.async false
set_option linter.all false
set_option maxRecDepth 100000
set_option maxHeartbeats 4000000
namespace Rw
open PySem L2
section
variable {P : Program} {w : World} {K : PySem.W.Frag} {mg : Str → Option Value} {base : Heap}
theorem rd_law2 {fl fS fW fA fY C CU : Addr} {dS dW dA dY : FuncData} {cdv : Value} {A : Around} {outer : List Env} {s : Shared} {Hb : Hp} {E : XK}
    (gS : Got P w K mg base CX0 1 "_law_same" ["_law_found", "_law_due"] spSame fS dS) (gW : Got P w K mg base (L2.CX P w) 4 "within" ["one", "other"] (spWithin K C CU) fW dW) (gA : Got P w K mg base (L2.CX P w) 5 "alike" ["one", "other"] (spAlike K C CU) fA dA)
    (gY : Got P w K mg base CX0 2 "_law_lies" ["_law_ways_here", "_law_bounds"] (spLies K) fY dY)
    (hr : Room 12 (A.deeper (PyProof.Rows.envOfC "law" (defScope sLaw) s.heap.objs.size fl cdv))) {u : TS}
    (hu : PSs (cxOf CX0 P w K mg base nLaw "law" (defScope sLaw) fl cdv A outer s Hb E).nox (lawFor.drop 9) u) :
    ∃ t, PSs (cxOf CX0 P w K mg base nLaw "law" (defScope sLaw) fl cdv A outer s Hb E).nox (lawFor.drop 7) t ∧
      ∀ (D : Ends) (H0 H : Hp) (a : Addr) (k n : Nat) (σ : L2.St), AtL K C H0 a k n σ H → (∀ σ' H', AtL K C H0 a k n σ' H' → u D σ' H') → t D σ H := by
  have hu66 : (A.deeper (PyProof.Rows.envOfC "law" (defScope sLaw) s.heap.objs.size fl cdv)).units + 66 < cLine := by
    have := hr.un
    omega
  refine ⟨_, pss_cons (ps_if (PW.pt (pw_or (pt_not (pt_val (pe_call gS.G (hr.mono (by decide)) rfl gS.m gS.k gS.b .nil pass0 (pa_cons (pe_call gW.G (hr.mono (by decide)) rfl gW.m gW.k gW.b .nil passNo (pa_cons (pv 9) (pa_cons (pv 10) pa_nil))) (pa_cons (pe_call gY.G (hr.mono (by decide)) rfl gY.m gY.k gY.b .nil pass0 (pa_cons (pv 6) (pa_cons (pv 7) pa_nil))) pa_nil)))))
      (pw_or1 (pt_not (pt_val (pe_call gS.G (hr.mono (by decide)) rfl gS.m gS.k gS.b .nil pass0 (pa_cons (pe_call gW.G (hr.mono (by decide)) rfl gW.m gW.k gW.b .nil passNo (pa_cons (pv 10) (pa_cons (pv 9) pa_nil))) (pa_cons (pe_call gY.G (hr.mono (by decide)) rfl gY.m gY.k gY.b .nil pass0 (pa_cons (pv 8) (pa_cons (pv 4) pa_nil))) pa_nil)))))))) (pss_one (ps_ret pe_bl)) pss_nil)
    (pss_cons (ps_if (PW.pt (pw_or (pt_not (pt_val (pe_call gS.G (hr.mono (by decide)) rfl gS.m gS.k gS.b .nil pass0 (pa_cons (pe_call gA.G (hr.mono (by decide)) rfl gA.m gA.k gA.b .nil passNo (pa_cons (pv 9) (pa_cons (pv 10) pa_nil))) (pa_cons (pe_cmpR (op_eqO hu66) (pv 6) (pv 8) (nomark _)) pa_nil)))))
      (pw_or1 (pt_not (pt_val (pe_call gS.G (hr.mono (by decide)) rfl gS.m gS.k gS.b .nil pass0 (pa_cons (pe_call gA.G (hr.mono (by decide)) rfl gA.m gA.k gA.b .nil passNo (pa_cons (pv 10) (pa_cons (pv 9) pa_nil))) (pa_cons (pe_cmpR (op_eqO hu66) (pv 6) (pv 8) (nomark _)) pa_nil)))))))) (pss_one (ps_ret pe_bl)) pss_nil) hu), ?_⟩
  rintro D H0 H a k n σ ⟨p, l, d, on, e, t, t2, v, v2, ns, m, m2, u11, u12, u13, u14, rfl, hP, core⟩ q
  have few1 := core.g1.few (by have := core.h4; show ns.length + 1 ≤ 8; omega)
  have few2 := core.g2.few (by have := core.h4; show ns.length + 1 ≤ 8; omega)
  -- within, both ways
  refine ⟨_, rfl, _, rfl, t, t2, ns, ns, _, _, rfl, core.tab, core.tab2, fun _ H1 s1 => ?_, fun z => absurd rfl z⟩
  have c1 := core.same s1
  refine ⟨_, rfl, _, rfl, v, e, optW ns m, m2, rfl, c1.w1, c1.n1, c1.d2, c1.g2.1, c1.g2.mk, by omega, fun H2 s2 => ?_⟩
  rw [within_lies core.hd core.g1 core.g2]
  refine ⟨_, _, rfl, ⟨_, rfl, ?_⟩⟩
  rw [decide_eq_true rfl]
  refine iteF ?_
  have c2 := c1.same s2
  refine ⟨_, rfl, _, rfl, t2, t, ns, ns, _, _, rfl, c2.tab2, c2.tab, fun _ H3 s3 => ?_, fun z => absurd rfl z⟩
  have c3 := c2.same s3
  refine ⟨_, rfl, _, rfl, v2, d, optW ns m2, m, rfl, c3.w2, c3.n2, c3.d1, c3.g1.1, c3.g1.mk, by omega, fun H4 s4 => ?_⟩
  rw [within_lies core.hd core.g2 core.g1]
  refine ⟨_, _, rfl, ⟨_, rfl, ?_⟩⟩
  rw [decide_eq_true rfl]
  refine iteF ?_
  have c4 := c3.same s4
  -- alike, both ways
  refine ⟨_, rfl, _, rfl, t, t2, ns, ns, _, _, rfl, c4.tab, c4.tab2, fun _ H5 s5 => ?_, fun z => absurd rfl z⟩
  have c5 := c4.same s5
  refine ⟨_, rfl, _, rfl, eqO_of c5.w1 c5.w2 ?_⟩
  rw [alike_ways core.hd core.g1 core.g2]
  refine ⟨_, _, rfl, ⟨_, rfl, ?_⟩⟩
  rw [decide_eq_true rfl]
  refine iteF ?_
  refine ⟨_, rfl, _, rfl, t2, t, ns, ns, _, _, rfl, c5.tab2, c5.tab, fun _ H6 s6 => ?_, fun z => absurd rfl z⟩
  have c6 := c5.same s6
  refine ⟨_, rfl, _, rfl, eqO_of c6.w1 c6.w2 ?_⟩
  rw [Bool.and_comm, alike_ways core.hd core.g1 core.g2]
  refine ⟨_, _, rfl, ⟨_, rfl, ?_⟩⟩
  rw [decide_eq_true rfl]
  refine iteF ?_
  exact q _ _ ⟨p, l, d, on, e, t, t2, v, v2, ns, m, m2, _, _, _, _, rfl, hP.same (s1.trans (s2.trans (s3.trans (s4.trans (s5.trans s6))))), c6⟩
end
end Rw
set_option Elab.async false
set_option linter.all false
set_option maxRecDepth 100000
set_option maxHeartbeats 4000000
namespace Rw
open PySem L2
theorem unl_drop {ns : List Str} (hd : Drawn ns) (h0 : 0 < ns.length) : Unl ns (ns.drop 1) := by
  have few := hd.few
  refine unl_of hd ((drawn_nd hd).sublist (List.drop_sublist _ _)) (fun x hx => .inl (List.mem_of_mem_drop hx)) ?_ fun e => ?_
  · rw [List.length_drop]; omega
  · have := congrArg List.length e
    rw [List.length_drop] at this
    omega
theorem unl_rev {ns : List Str} (hd : Drawn ns) (h1 : 1 < ns.length) : Unl ns ns.reverse := by
  have few := hd.few
  refine unl_of hd ((List.reverse_perm ns).nodup_iff.mpr (drawn_nd hd)) (fun x hx => .inl (List.mem_reverse.mp hx)) (by rw [List.length_reverse]; omega) fun e => ?_
  have nd := drawn_nd hd
  match ns, h1, e, nd with
  | a :: b :: r, _, e, nd =>
    have z := List.head?_reverse (l := a :: b :: r)
    rw [← e] at z
    have z : some a = (b :: r).getLast? := by rw [← List.getLast?_cons_cons (a := a)]; exact z
    exact (List.nodup_cons.mp nd).1 (List.mem_of_getLast? z.symm)
/-- what is needed behind the first tests -/
structure DCx (K : PySem.W.Frag) (C : Addr) (H0 : Hp) (p l on t : Addr) (v : V) (ns : List Str) (m : List (Pr × Bd)) (H : Hp) : Prop where
  x : ExtB p H0 H
  hl : H l = some (.lst (ns.map V.str))
  hon : H on = some (.lst ((spots ns).map V.str))
  hd : Drawn ns
  h0 : 0 < ns.length
  g1 : GoodB (spots ns) m
  tab : Tab K C H t ns (tabM ns m)
  vb : v = .non → LawBad (codeM m) (spots ns)
theorem LCore.dc {K : PySem.W.Frag} {C : Addr} {H0 H : Hp} {p l d on e t t2 : Addr} {v v2 : V} {ns : List Str} {m m2 : List (Pr × Bd)} (c : LCore K C H0 p l d on e t t2 v v2 ns m m2 H) : DCx K C H0 p l on t v ns m H :=
  ⟨.of (.of c.s0), c.hl, c.hon, c.hd, c.h0, c.g1, c.tab, fun ev => by
    have z := c.w1
    unfold optW at z
    by_cases hb : LawBad (codeM m) (spots ns)
    · exact hb
    · rw [if_neg hb] at z
      rcases z with ⟨z, _⟩ | ⟨r, mw, _, z, _⟩
      · cases z
      · rw [ev] at z
        cases z⟩
section
variable {K : PySem.W.Frag} {C : Addr} {H0 H H' : Hp} {p l on t : Addr} {v : V} {ns : List Str} {m : List (Pr × Bd)}
theorem DCx.ext (c : DCx K C H0 p l on t v ns m H) (e : LamX.ExtN H H') : DCx K C H0 p l on t v ns m H' :=
  ⟨c.x.trans (.of e), e _ _ c.hl (fun _ z => nomatch z), e _ _ c.hon (fun _ z => nomatch z), c.hd, c.h0, c.g1, c.tab.ext e, c.vb⟩
theorem DCx.but {n : Nat} (c : DCx K C H0 p l on t v ns m H) (hP : Pool H p n) (b : But p H H') : DCx K C H0 p l on t v ns m H' :=
  ⟨c.x.trans (.but b), b _ _ c.hl (lst_apart c.hl hP), b _ _ c.hon (lst_apart c.hon hP), c.hd, c.h0, c.g1, c.tab.but hP b, c.vb⟩
end
section
variable {P : Program} {w : World} {K : PySem.W.Frag} {mg : Str → Option Value} {base : Heap}
def AtC (K : PySem.W.Frag) (C Pt : Addr) (H0 : Hp) (a : Addr) (n : Nat) (σ : L2.St) (H : Hp) : Prop := ∃ (p l on t : Addr) (v : V) (ns : List Str) (m : List (Pr × Bd)) (u1 u4 u7 u8 u10 u11 u12 u13 u14 : Option V),
  σ = [some (.ref a), u1, some (.ref p), some (.ref l), u4, some (.ref on), some v, u7, u8, some (.ref t), u10, u11, u12, u13, u14] ∧ Pool H p n ∧ LamX.Tabs [(Pt, qLam)] H ∧ H0 p = none ∧ DCx K C H0 p l on t v ns m H
/-- the other table stands -/
def AtQ (K : PySem.W.Frag) (C Pt : Addr) (H0 : Hp) (a : Addr) (n : Nat) (σ : L2.St) (H : Hp) : Prop := ∃ (p l on t qq : Addr) (v : V) (ns ms : List Str) (m mq : List (Pr × Bd)) (u1 u4 u7 u8 u10 u12 u13 u14 : Option V),
  σ = [some (.ref a), u1, some (.ref p), some (.ref l), u4, some (.ref on), some v, u7, u8, some (.ref t), u10, some (.ref qq), u12, u13, u14] ∧ Pool H p n ∧ LamX.Tabs [(Pt, qLam)] H ∧ H0 p = none ∧ DCx K C H0 p l on t v ns m H ∧ Tab K C H qq ms mq ∧ ns ≠ ms
theorem rd_law3 {fl fO fI C Pt : Addr} {dO dI : FuncData} {cdv : Value} {A : Around} {outer : List Env} {s : Shared} {Hs : Hp} {E : XK}
    (gO : Got P w K mg base CX0 2 "_law_one" ["_law_pool_here", "_law_things"] (spOne K) fO dO) (GT : FnOk P w K mg base CX0 4 fI dI ["self", "names", "bounds"] (spTInit K C)) (MT : L2.Mk K C fI) (bT : Binds K dI ["self", "names", "bounds"] []) (mC : mg "Table" = some (.ref C)) (ml : mg "len" = none)
    (hr : Room 12 (A.deeper (PyProof.Rows.envOfC "law" (defScope sLaw) s.heap.objs.size fl cdv))) {u : TS}
    (hu : PSs (cxOf CX0 P w K mg base nLaw "law" (defScope sLaw) fl cdv A outer s Hs E).nox (lawFor.drop 10) u) :
    ∃ t, PSs (cxOf CX0 P w K mg base nLaw "law" (defScope sLaw) fl cdv A outer s Hs E).nox (lawFor.drop 9) t ∧
      ∀ (D : Ends) (H0 H : Hp) (a : Addr) (k n : Nat) (σ : L2.St), n ≤ 900000 → LamX.Tabs [(Pt, qLam)] H0 → AtL K C H0 a k n σ H → (∀ σ' H', AtQ K C Pt H0 a (n + 1) σ' H' → u D σ' H') → t D σ H := by
  refine ⟨_, pss_cons (ps_set (i := 11) scLaw.nd rfl (Or.inr rfl) (pe_make MT GT (hr.mono (by decide)) rfl mC bT .nil pass0 (pa_cons
      (pe_call gO.G (hr.mono (by decide)) rfl gO.m gO.k gO.b .nil pass0 (pa_cons (pv 2) (pa_cons (pe_lst
        (pa_cons (pe_op op_cat (pv 3) (pe_lst (pa_cons pe_str pa_nil)))
        (pa_cons (pe_slice sl_list (pv 3) (po_some pe_int) po_none)
        (pa_cons (pe_ifExp (pt_cmpR op_gt (pe_callB call_len_seq rfl ml PySem.boot_len (pa_cons (pv 3) pa_nil)) pe_int (nomark _)) (pe_revL (pv 3)) (pe_lst pa_nil)) pa_nil)))) pa_nil)))
      (pa_cons pe_dnewT pa_nil)))) hu, ?_⟩
  rintro D H0 H a k n σ hn hT0 ⟨p, l, d, on, e, t, t2, v, v2, ns, m, m2, u11, u12, u13, u14, rfl, hP, core⟩ q
  have hTb : LamX.Tabs [(Pt, qLam)] H := LamX.Tabs.ext hT0 core.s0
  have hp0 := core.hp
  have core := core.dc
  have few := core.hd.few
  have hl := core.hl
  have nlen : (ns.map V.str).length = ns.length := List.length_map _
  -- names more
  refine ⟨_, rfl, _, rfl, (by show 1 ≤ sizeLine; decide), fun a1 h1 => ⟨l, a1, _, _, rfl, rfl, same_new h1 _ _ _ hl, upd_same, ?_, fun a2 h2 => ?_⟩⟩
  · rw [nlen]
    exact Nat.le_of_lt (small1000 (show ns.length + 1 ≤ 1000 by omega))
  have s2 := (same_new h1 (.lst [V.str "q"])).trans (same_new h2 (.lst (ns.map V.str ++ [V.str "q"])))
  have e2 : upd (upd H a1 (.lst [V.str "q"])) a2 (.lst (ns.map V.str ++ [V.str "q"])) a2 = some (.lst ((ns ++ [("q" : Str)]).map V.str)) := by
    rw [upd_same, List.map_append]
    rfl
  generalize upd (upd H a1 (.lst [V.str "q"])) a2 (.lst (ns.map V.str ++ [V.str "q"])) = H2 at s2 e2
  clear h1 h2
  -- names less
  refine ⟨_, rfl, _, rfl, l, _, rfl, SqL.of (s2 _ _ hl), fun a3 h3 => ?_⟩
  have ec : cutV (ns.map V.str) (some 1) none = (ns.drop 1).map V.str := by
    have z := cut_from (ns.map V.str) 1 (by rw [nlen]; have := core.h0; omega)
    rw [List.map_drop]
    exact z
  rw [ec]
  have s3 := s2.trans (same_new h3 (.lst ((ns.drop 1).map V.str)))
  have e3 : upd H2 a3 (.lst ((ns.drop 1).map V.str)) a3 = some (.lst ((ns.drop 1).map V.str)) := upd_same
  have e2' := same_new h3 (.lst ((ns.drop 1).map V.str)) _ _ e2
  generalize upd H2 a3 (.lst ((ns.drop 1).map V.str)) = H3 at s3 e3 e2'
  clear h3 s2 e2
  refine withIf (R := fun v H4 => ∃ (a4 : Addr) (m4 : List Str), v = .ref a4 ∧ Same H3 H4 ∧ H4 a4 = some (.lst (m4.map V.str)) ∧ Unl ns m4) (fun Q' rest => ?_) ?_
  · refine ⟨_, rfl, l, _, rfl, .inl (SqL.of (s3 _ _ hl)), _, _, rfl, rfl, _, rfl, ?_⟩
    refine ite2 (fun h => ?_) (fun h => ?_)
    · have h1 : 1 < ns.length := by
        have := of_decide_eq_true h
        rw [nlen] at this
        exact Int.ofNat_lt.mp this
      refine ⟨_, rfl, l, _, rfl, SqL.of (s3 _ _ hl), fun b1 hb1 => ?_⟩
      refine rest _ _ ⟨b1, ns.reverse, rfl, same_new hb1 _, ?_, unl_rev core.hd h1⟩
      rw [upd_same, List.map_reverse]
    · refine ⟨(by show 0 ≤ sizeLine; decide), fun b1 hb1 => ?_⟩
      exact rest _ _ ⟨b1, [], rfl, same_new hb1 _, upd_same, unl_nil core.hd core.h0⟩
  · rintro v4 H4 ⟨a4, m4, rfl, s4, e4, hm4⟩
    refine ⟨(by show 3 ≤ sizeLine; decide), fun a5 h5 => ?_⟩
    have t5 := same_new h5 (.lst [V.ref a2, V.ref a3, V.ref a4])
    have k2 := t5 _ _ (s4 _ _ e2')
    have k3 := t5 _ _ (s4 _ _ e3)
    have k4 := t5 _ _ e4
    have k5 : upd H4 a5 (.lst [V.ref a2, V.ref a3, V.ref a4]) a5 = some (.lst [V.ref a2, V.ref a3, V.ref a4]) := upd_same
    have s5 := (s3.trans s4).trans t5
    have n5 : a5 ≠ p := (hP.same (s3.trans s4)).apart h5
    generalize upd H4 a5 (.lst [V.ref a2, V.ref a3, V.ref a4]) = H5 at k2 k3 k4 k5 s5
    have hP5 := hP.same s5
    refine ⟨p, a5, _, _, rfl, hP5, by omega, .inl (SqL.of k5), n5, Nat.succ_pos _, (by show 3 ≤ 10000; decide), fun i v oo hx hP6 => ?_⟩
    have b6 : But p H (upd H5 p oo) := (But.of s5).put
    have hv : ∃ (a : Addr) (ms : List Str), v = .ref a ∧ upd H5 p oo a = some (.lst (ms.map V.str)) ∧ Unl ns ms := by
      have go : ∀ (a : Addr) (ms : List Str), H5 a = some (.lst (ms.map V.str)) → upd H5 p oo a = some (.lst (ms.map V.str)) := fun a ms e => by rw [upd_ne (lst_apart e hP5)]; exact e
      match i, hx with
      | 0, hx => cases hx; exact ⟨a2, _, rfl, go _ _ k2, unl_q core.hd⟩
      | 1, hx => cases hx; exact ⟨a3, _, rfl, go _ _ k3, unl_drop core.hd core.h0⟩
      | 2, hx => cases hx; exact ⟨a4, _, rfl, go _ _ k4, hm4⟩
      | i + 3, hx => cases hx
    obtain ⟨b, ms, rfl, ea, hms⟩ := hv
    generalize upd H5 p oo = H6 at b6 ea hP6
    clear k2 k3 k4 k5 s5 h5 e2' e3 s3 s4 e4 hx
    intro dd hdn
    have t7 := same_new hdn (.dT [])
    have ea7 := t7 _ _ ea
    have ed : upd H6 dd (.dT []) dd = some (.dT []) := upd_same
    generalize upd H6 dd (.dT []) = H7 at t7 ea7 ed
    intro xx dx hxx hdx hne
    have sM := own_same (C := C) hxx hdx
    have M7 : Makes K H7 b dd ms (optM []) := ⟨.inl (SqL.of ea7), hms.nd, hms.good, hms.sok, hms.few, ⟨[], ed, .nil⟩, (fun e he => nomatch he), (by show 0 ≤ 1000; decide)⟩
    refine ⟨H7, xx, dx, b, dd, ms, _, rfl, sM, hxx, upd_same, M7.same sM, fun H8 s8 T8 => ⟨rfl, ?_⟩⟩
    have b8 : But p H H8 := b6.trans (.of (t7.trans s8))
    exact q _ _ ⟨p, l, on, t, xx, _, ns, ms, m, _, _, _, _, _, _, _, _, _, rfl, hP6.same (t7.trans s8), tabs_but hP b8 hTb, hp0, core.but hP b8, T8, hms.ne⟩
end
end Rw
set_option Elab.async false
set_option linter.all false
set_option maxRecDepth 100000
set_option maxHeartbeats 4000000
namespace Rw
open PySem L2
section
variable {P : Program} {w : World} {K : PySem.W.Frag} {mg : Str → Option Value} {base : Heap}
theorem rd_law4 {fl fM fW fA C CU CN CS CE c Pt : Addr} {dM dW dA : FuncData} {A : Around} {outer : List Env} {s : Shared} {Hs : Hp} {E : XK}
    (FM : Fun K "_law_met" "_law_met" sMet fM dM) (bM : Binds K dM ["_law_ask"] []) (mM : mg "_law_met" = some (.ref fM)) (TB : LamX.TabB base mg c Pt) (mU : mg "UnlikeNames" = some (.ref CU)) (mN : mg "NoName" = some (.ref CN)) (mS : mg "SameName" = some (.ref CS)) (mE : mg "Empty" = some (.ref CE)) (ER : Errs K CU CN CS CE)
    (gW : Got P w K mg base (L2.CX P w) 4 "within" ["one", "other"] (spWithin K C CU) fW dW) (gA : Got P w K mg base (L2.CX P w) 5 "alike" ["one", "other"] (spAlike K C CU) fA dA)
    (hr : Room 12 (A.deeper (PyProof.Rows.envOfC "law" (defScope sLaw) s.heap.objs.size fl (.ref c)))) {u : TS}
    (hu : PSs (cxOf CX0 P w K mg base nLaw "law" (defScope sLaw) fl (.ref c) A outer s Hs E).nox (lawFor.drop 14) u) :
    ∃ t, PSs (cxOf CX0 P w K mg base nLaw "law" (defScope sLaw) fl (.ref c) A outer s Hs E).nox (lawFor.drop 10) t ∧
      ∀ (D : Ends) (H0 H : Hp) (a : Addr) (n : Nat) (σ : L2.St), AtQ K C Pt H0 a n σ H → (∀ σ' H', AtC K C Pt H0 a n σ' H' → u D σ' H') → t D σ H := by
  refine ⟨_, pss_cons (ps_set (i := 12) scLaw.nd rfl (Or.inl rfl) (pe_lst (pa_cons
      (pe_lamF (k := 9) (T := [(Pt, qLam)]) (TT := TMet CU CN CS CE) FM bM rfl mM scMet rfl (Or.inl rfl) (fun _ => met_gives mU mN mS mE ER _) TB rfl rfl (hr.mono (by decide)) (LamX.lamS_by (sc := defScope sLaw) (by decide +kernel)) rfl (fun _ _ _ _ _ => rfl)
        (fun A o s H E f c' hr => pe_callS gW.G (hr.mono (by decide)) rfl gW.m gW.k gW.b (fun σ => passAt (takes_of rfl rfl rfl rfl) σ) (pa_cons (pv 9) (pa_cons (pv 11) pa_nil)))) pa_nil)))
    (pss_cons (ps_expr (pe_bm PySem.F.plainAttrs_list PySem.F.slot_list_append PySem.F.type_list_append mt_append (pv 12) (pa_cons
      (pe_lamF (k := 9) (T := [(Pt, qLam)]) (TT := TMet CU CN CS CE) FM bM rfl mM scMet rfl (Or.inl rfl) (fun _ => met_gives mU mN mS mE ER _) TB rfl rfl (hr.mono (by decide)) (LamX.lamS_by (sc := defScope sLaw) (by decide +kernel)) rfl (fun _ _ _ _ _ => rfl)
        (fun A o s H E f c' hr => pe_callS gA.G (hr.mono (by decide)) rfl gA.m gA.k gA.b (fun σ => passAt (takes_of rfl rfl rfl rfl) σ) (pa_cons (pv 11) (pa_cons (pv 9) pa_nil)))) pa_nil)))
    (pss_cons (ps_expr (pe_bm PySem.F.plainAttrs_list PySem.F.slot_list_append PySem.F.type_list_append mt_append (pv 12) (pa_cons
      (pe_lamF (k := 9) (T := [(Pt, qLam)]) (TT := TMet CU CN CS CE) FM bM rfl mM scMet rfl (Or.inl rfl) (fun _ => met_gives mU mN mS mE ER _) TB rfl rfl (hr.mono (by decide)) (LamX.lamS_by (sc := defScope sLaw) (by decide +kernel)) rfl (fun _ _ _ _ _ => rfl)
        (fun A o s H E f c' hr => pe_callS gW.G (hr.mono (by decide)) rfl gW.m gW.k gW.b (fun σ => passAt (takes_of rfl rfl rfl rfl) σ) (pa_cons (pv 11) (pa_cons (pv 9) pa_nil)))) pa_nil)))
    (pss_cons (ps_if (pt_cmpR (op_neG (D := DTup _ DPl) (mon_tup mon_pl) (eqG_tup mon_pl eqG_pl) (hr.mono (by decide))) (pv 12) (pe_op op_rep (pe_lst (pa_cons (pe_tup (pa_cons pe_str (pa_cons pe_non pa_nil))) pa_nil)) pe_int) (nomark _)) (pss_one (ps_ret pe_bl)) pss_nil) hu))), ?_⟩
  rintro D H0 H a n σ ⟨p, l, on, t, qq, v, ns, ms, m, mq, u1, u4, u7, u8, u10, u12, u13, u14, rfl, hP, hTb, hp0, core, tabq, hne⟩ q
  -- within
  refine ⟨hTb, fun H1 e1 tb1 => ?_⟩
  have c1 := core.ext e1
  have tq1 := tabq.ext e1
  refine ⟨_, rfl, _, rfl, t, qq, ns, ms, _, mq, rfl, c1.tab, tq1, fun e => absurd e hne, fun _ H2 s2 => ?_⟩
  refine .inl ⟨rfl, fun r hr1 => ⟨(by show 1 ≤ sizeLine; decide), fun f hf => ?_⟩⟩
  have s3 := s2.trans ((same_new hr1 (.tup [V.str "unlike", V.non])).trans (same_new hf (.lst [V.ref r])))
  have hbf : H2 f = none := by
    cases e : H2 f with
    | none => rfl
    | some o2 =>
      have z := same_new hr1 (.tup [V.str "unlike", V.non]) _ _ e
      rw [hf] at z
      cases z
  have core2 := c1.ext (.of s2)
  have tq2 := tq1.same s2
  have hP2 := (hP.ext e1).same s2
  have gr1 : Grow [(Pt, qLam)] H2 f [("unlike", V.non)] (upd (upd H2 r (.tup [V.str "unlike", V.non])) f (.lst [V.ref r])) := by
    refine ⟨.of ((same_new hr1 _).trans (same_new hf _)), hbf, tb1.ext s3, [r], upd_same, .cons ?_ .nil⟩
    exact same_new hf _ _ _ upd_same
  generalize upd (upd H2 r (.tup [V.str "unlike", V.non])) f (.lst [V.ref r]) = H3 at gr1
  clear core c1 tq1 tabq s3 s2 hr1 hf e1 tb1
  -- alike
  obtain ⟨rs, hf, _⟩ := id gr1.met
  refine ⟨_, rfl, .inl ⟨rfl, _, SqL.of hf⟩, gr1.tabs, fun H4 e4 tb4 => ?_⟩
  have g4 := gr1.more e4 tb4
  refine ⟨_, rfl, _, rfl, qq, t, ms, ns, mq, _, rfl, tq2.ext g4.ext, (core2.ext g4.ext).tab, fun e => absurd e.symm hne, fun _ H5 s5 => ?_⟩
  refine .inl ⟨rfl, fun r2 hr2 => ?_⟩
  obtain ⟨xs, ex, lt, g6⟩ := (g4.same s5).app (wd := "unlike") (v := .non) hr2 (by show 1 ≤ 10; decide)
  refine ⟨f, xs, _, rfl, rfl, ex, lt, ?_⟩
  clear ex lt hr2 s5 g4 e4 tb4 hf gr1
  generalize upd (upd H5 r2 _) f (.lst (xs ++ [V.ref r2])) = H6 at g6
  -- within, behind
  obtain ⟨rs, hf, _⟩ := id g6.met
  refine ⟨_, rfl, .inl ⟨rfl, _, SqL.of hf⟩, g6.tabs, fun H4 e4 tb4 => ?_⟩
  have g4 := g6.more e4 tb4
  refine ⟨_, rfl, _, rfl, qq, t, ms, ns, mq, _, rfl, tq2.ext g4.ext, (core2.ext g4.ext).tab, fun e => absurd e.symm hne, fun _ H5 s5 => ?_⟩
  refine .inl ⟨rfl, fun r2 hr2 => ?_⟩
  obtain ⟨xs, ex, lt, g8⟩ := (g4.same s5).app (wd := "unlike") (v := .non) hr2 (by show 2 ≤ 10; decide)
  refine ⟨f, xs, _, rfl, rfl, ex, lt, ?_⟩
  clear ex lt hr2 s5 g4 e4 tb4 hf g6
  generalize upd (upd H5 r2 _) f (.lst (xs ++ [V.ref r2])) = H8 at g8
  -- all that was met
  obtain ⟨rs, hf, pr⟩ := id g8.met
  obtain ⟨r1, r2, r3, rfl, p1, p2, p3⟩ : ∃ r1 r2 r3, rs = [r1, r2, r3] ∧ H8 r1 = some (.tup [.str "unlike", .non]) ∧ H8 r2 = some (.tup [.str "unlike", .non]) ∧ H8 r3 = some (.tup [.str "unlike", .non]) := by
    cases pr with
    | cons a1 pr => cases pr with
      | cons a2 pr => cases pr with
        | cons a3 pr =>
          cases pr
          exact ⟨_, _, _, rfl, a1, a2, a3⟩
  clear pr
  refine ⟨_, rfl, (by show 2 ≤ sizeLine; decide), fun t5 h5 => ⟨(by show 1 ≤ sizeLine; decide), fun g2 hg2 => ?_⟩⟩
  have s6 := same_new h5 (.tup [.str "unlike", .non])
  have c6 : (upd H8 t5 (.tup [.str "unlike", .non])) t5 = some (.tup [.str "unlike", .non]) := upd_same
  generalize upd H8 t5 (.tup [.str "unlike", .non]) = I6 at s6 c6 hg2 ⊢
  have s7 := same_new hg2 (.lst [.ref t5])
  have c7 : (upd I6 g2 (.lst [.ref t5])) g2 = some (.lst [.ref t5]) := upd_same
  generalize upd I6 g2 (.lst [.ref t5]) = I7 at s7 c7 ⊢
  refine ⟨g2, 3, _, rfl, rfl, c7, by decide, by decide, (by show 1 * 3 ≤ sizeLine; decide), fun g3 hg3 => ?_⟩
  have er : (List.replicate (3 : Int).toNat [V.ref t5]).flatten = [.ref t5, .ref t5, .ref t5] := rfl
  rw [er]
  have s8 := same_new hg3 (.lst [.ref t5, .ref t5, .ref t5])
  have c8 : (upd I7 g3 (.lst [.ref t5, .ref t5, .ref t5])) g3 = some (.lst [.ref t5, .ref t5, .ref t5]) := upd_same
  generalize upd I7 g3 (.lst [.ref t5, .ref t5, .ref t5]) = I8 at s8 c8 ⊢
  have z7 := s7.trans s8
  have z6 := s6.trans z7
  have pn : Pl V.non := .inr ⟨rfl, by decide +kernel⟩
  refine ⟨⟨f, g3, _, _, rfl, rfl, z6 _ _ hf, c8, .cons (dt2 (z6 _ _ p1) (z7 _ _ c6) pn) (.cons (dt2 (z6 _ _ p2) (z7 _ _ c6) pn) (.cons (dt2 (z6 _ _ p3) (z7 _ _ c6) pn) .nil))⟩, fun H' e => ⟨_, rfl, iteF ?_⟩⟩
  have g9 := g8.same (z6.trans e)
  exact q _ _ ⟨p, l, on, t, v, ns, m, _, _, _, _, _, _, _, _, _, rfl, hP2.ext g9.ext, g9.tabs, hp0, core2.ext g9.ext⟩
end
end Rw
set_option Elab.async false
set_option linter.all false
set_option maxRecDepth 100000
set_option maxHeartbeats 4000000
namespace Rw
open PySem L2
section
variable {P : Program} {w : World} {K : PySem.W.Frag} {mg : Str → Option Value} {base : Heap}
/-- a wrong name and a right one -/
def AtW (K : PySem.W.Frag) (C Pt : Addr) (H0 : Hp) (a : Addr) (n : Nat) (σ : L2.St) (H : Hp) : Prop := ∃ (p l on t : Addr) (v o : V) (x : Str) (ns : List Str) (m : List (Pr × Bd)) (u1 u4 u7 u8 u10 u11 u12 : Option V),
  σ = [some (.ref a), u1, some (.ref p), some (.ref l), u4, some (.ref on), some v, u7, u8, some (.ref t), u10, u11, u12, some o, some (.str x)] ∧ Pool H p n ∧ LamX.Tabs [(Pt, qLam)] H ∧ H0 p = none ∧ DCx K C H0 p l on t v ns m H ∧ SpotV K H ns o false ∧ Pl o ∧ x ∈ spots ns
theorem rd_law5 {fl fO C Pt : Addr} {dO : FuncData} {cdv : Value} {A : Around} {outer : List Env} {s : Shared} {Hs : Hp} {E : XK}
    (gO : Got P w K mg base CX0 2 "_law_one" ["_law_pool_here", "_law_things"] (spOne K) fO dO)
    (hr : Room 12 (A.deeper (PyProof.Rows.envOfC "law" (defScope sLaw) s.heap.objs.size fl cdv))) {u : TS}
    (hu : PSs (cxOf CX0 P w K mg base nLaw "law" (defScope sLaw) fl cdv A outer s Hs E).nox (lawFor.drop 15) u) :
    ∃ t, PSs (cxOf CX0 P w K mg base nLaw "law" (defScope sLaw) fl cdv A outer s Hs E).nox (lawFor.drop 14) t ∧
      ∀ (D : Ends) (H0 H : Hp) (a : Addr) (n : Nat) (σ : L2.St), n ≤ 900000 → AtC K C Pt H0 a n σ H → (∀ σ' H', AtW K C Pt H0 a (n + 2) σ' H' → u D σ' H') → t D σ H := by
  refine ⟨_, pss_cons (ps_asg (pe_tup (pa_cons (pe_call gO.G (hr.mono (by decide)) rfl gO.m gO.k gO.b .nil pass0 (pa_cons (pv 2) (pa_cons (pe_lst (pa_cons pe_str (pa_cons pe_non (pa_cons pe_int (pa_cons (pe_lst (pa_cons pe_str pa_nil)) (pa_cons pe_dnewK (pa_cons pe_bl pa_nil))))))) pa_nil)))
        (pa_cons (pe_call gO.G (hr.mono (by decide)) rfl gO.m gO.k gO.b .nil pass0 (pa_cons (pv 2) (pa_cons (pv 5) pa_nil))) pa_nil)))
      (pg_tup rfl (pgs_cons (pg_name (i := 13) scLaw.nd rfl (Or.inr rfl)) (pgs_cons (pg_name (i := 14) scLaw.nd rfl (Or.inr rfl)) pgs_nil)))) hu, ?_⟩
  rintro D H0 H a n σ hn ⟨p, l, on, t, v, ns, m, u1, u4, u7, u8, u10, u11, u12, u13, u14, rfl, hP, hTb, hp0, core⟩ q
  refine ⟨_, rfl, (by show 1 ≤ sizeLine; decide), fun la hla dd hdd => ⟨(by show 6 ≤ sizeLine; decide), fun a6 h6 => ?_⟩⟩
  have t1 := same_new hla (.lst [V.str "a"])
  have t2 := same_new hdd (.dK [])
  have t3 := same_new h6 (.lst [V.str "nosuch", V.non, V.int 5, V.ref la, V.ref dd, V.bl true])
  have t13 := (t1.trans t2).trans t3
  have hP3 := hP.same t13
  have nla : la ≠ p := hP.apart hla
  have ndd : dd ≠ p := (hP.same t1).apart hdd
  have n6 : a6 ≠ p := (hP.same (t1.trans t2)).apart h6
  have f1 := t3 _ _ (t2 _ _ (upd_same (H := H) (a := la) (o := .lst [V.str "a"])))
  have f2 := t3 _ _ (upd_same (H := upd H la (.lst [V.str "a"])) (a := dd) (o := .dK []))
  refine ⟨p, a6, _, n, rfl, hP3, by omega, .inl (SqL.of upd_same), n6, Nat.succ_pos _, (by show 6 ≤ 10000; decide), fun i o oo hx hP4 => ?_⟩
  have b4 : But p H (upd (upd (upd (upd H la (.lst [V.str "a"])) dd (.dK [])) a6 (.lst [V.str "nosuch", V.non, V.int 5, V.ref la, V.ref dd, V.bl true])) p oo) := (But.of t13).put
  have g1 : (upd (upd (upd (upd H la (.lst [V.str "a"])) dd (.dK [])) a6 (.lst [V.str "nosuch", V.non, V.int 5, V.ref la, V.ref dd, V.bl true])) p oo) la = some (.lst [V.str "a"]) := by rw [upd_ne nla]; exact f1
  have g2 : (upd (upd (upd (upd H la (.lst [V.str "a"])) dd (.dK [])) a6 (.lst [V.str "nosuch", V.non, V.int 5, V.ref la, V.ref dd, V.bl true])) p oo) dd = some (.dK []) := by rw [upd_ne ndd]; exact f2
  generalize upd (upd (upd (upd H la (.lst [V.str "a"])) dd (.dK [])) a6 (.lst [V.str "nosuch", V.non, V.int 5, V.ref la, V.ref dd, V.bl true])) p oo = H4 at hP4 b4 g1 g2
  clear f1 f2 t1 t2 t3 t13 hla hdd h6 hP3
  have c4 := core.but hP b4
  refine ⟨_, rfl, _, rfl, p, on, _, _, rfl, hP4, by omega, .inl (SqL.of c4.hon), lst_apart c4.hon hP4, (by show 0 < _; rw [List.length_map]; exact Nat.succ_pos _), ?_, fun j v2 oo2 hx2 hP6 => ?_⟩
  · rw [List.length_map]
    have := core.hd.few
    exact Nat.le_trans (show _ ≤ 100 by show ns.length + 1 ≤ 100; omega) (by decide)
  obtain ⟨x, hxj, rfl⟩ := at_map hx2
  have hxin : x ∈ spots ns := List.mem_of_getElem? hxj
  refine ⟨(by show 2 ≤ sizeLine; decide), fun tp htp => ⟨tp, _, rfl, SqT.of upd_same, rfl, _, _, rfl, _, _, rfl, rfl, ?_⟩⟩
  have b7 : But p H4 (upd (upd H4 p oo2) tp (.tup [o, .str x])) := (but_upd (o := oo2)).new htp
  have hP7 : Pool (upd (upd H4 p oo2) tp (.tup [o, .str x])) p (n + 1 + 1) := hP6.new htp
  generalize upd (upd H4 p oo2) tp (.tup [o, .str x]) = H7 at b7 hP7
  have k1 := b7 _ _ g1 nla
  have k2 := b7 _ _ g2 ndd
  exact q _ _ ⟨p, l, on, t, v, o, x, ns, m, _, _, _, _, _, _, _, rfl, hP7, tabs_but hP (b4.trans b7) hTb, hp0, c4.but hP4 b7, odd_six core.hd k1 k2 hx, odd_pl hx, hxin⟩
theorem rd_law6 {fl fM fS C CU CN CS CE c Pt : Addr} {dM dS : FuncData} {A : Around} {outer : List Env} {s : Shared} {Hs : Hp} {E : XK}
    (FM : Fun K "_law_met" "_law_met" sMet fM dM) (bM : Binds K dM ["_law_ask"] []) (mM : mg "_law_met" = some (.ref fM)) (TB : LamX.TabB base mg c Pt) (mU : mg "UnlikeNames" = some (.ref CU)) (mN : mg "NoName" = some (.ref CN)) (mS : mg "SameName" = some (.ref CS)) (mE : mg "Empty" = some (.ref CE)) (ER : Errs K CU CN CS CE)
    (gS : Got P w K mg base (L2.CX P w) 5 "spread" ["table", "one", "other"] (spSpread K C CN CS CE) fS dS)
    (hr : Room 12 (A.deeper (PyProof.Rows.envOfC "law" (defScope sLaw) s.heap.objs.size fl (.ref c)))) {u : TS}
    (hu : PSs (cxOf CX0 P w K mg base nLaw "law" (defScope sLaw) fl (.ref c) A outer s Hs E).nox (lawFor.drop 19) u) :
    ∃ t, PSs (cxOf CX0 P w K mg base nLaw "law" (defScope sLaw) fl (.ref c) A outer s Hs E).nox (lawFor.drop 15) t ∧
      ∀ (D : Ends) (H0 H : Hp) (a : Addr) (n : Nat) (σ : L2.St), AtW K C Pt H0 a n σ H → (∀ σ' H', AtC K C Pt H0 a n σ' H' → u D σ' H') → t D σ H := by
  refine ⟨_, pss_cons (ps_set (i := 12) scLaw.nd rfl (Or.inl rfl) (pe_lst (pa_cons
      (pe_lamF (k := 9) (T := [(Pt, qLam)]) (TT := TMet CU CN CS CE) FM bM rfl mM scMet rfl (Or.inl rfl) (fun _ => met_gives mU mN mS mE ER _) TB rfl rfl (hr.mono (by decide)) (LamX.lamS_by (sc := defScope sLaw) (by decide +kernel)) rfl (fun _ _ _ _ _ => rfl)
        (fun A o s H E f c' hr => pe_callS gS.G (hr.mono (by decide)) rfl gS.m gS.k gS.b (fun σ => passAt (takes_of rfl rfl rfl rfl) σ) (pa_cons (pv 9) (pa_cons (pv 13) (pa_cons pe_non pa_nil))))) pa_nil)))
    (pss_cons (ps_expr (pe_bm PySem.F.plainAttrs_list PySem.F.slot_list_append PySem.F.type_list_append mt_append (pv 12) (pa_cons
      (pe_lamF (k := 9) (T := [(Pt, qLam)]) (TT := TMet CU CN CS CE) FM bM rfl mM scMet rfl (Or.inl rfl) (fun _ => met_gives mU mN mS mE ER _) TB rfl rfl (hr.mono (by decide)) (LamX.lamS_by (sc := defScope sLaw) (by decide +kernel)) rfl (fun _ _ _ _ _ => rfl)
        (fun A o s H E f c' hr => pe_callS gS.G (hr.mono (by decide)) rfl gS.m gS.k gS.b (fun σ => passAt (takes_of rfl rfl rfl rfl) σ) (pa_cons (pv 9) (pa_cons (pv 14) (pa_cons (pv 13) pa_nil))))) pa_nil)))
    (pss_cons (ps_expr (pe_bm PySem.F.plainAttrs_list PySem.F.slot_list_append PySem.F.type_list_append mt_append (pv 12) (pa_cons
      (pe_lamF (k := 9) (T := [(Pt, qLam)]) (TT := TMet CU CN CS CE) FM bM rfl mM scMet rfl (Or.inl rfl) (fun _ => met_gives mU mN mS mE ER _) TB rfl rfl (hr.mono (by decide)) (LamX.lamS_by (sc := defScope sLaw) (by decide +kernel)) rfl (fun _ _ _ _ _ => rfl)
        (fun A o s H E f c' hr => pe_callS gS.G (hr.mono (by decide)) rfl gS.m gS.k gS.b (fun σ => passAt (takes_of rfl rfl rfl rfl) σ) (pa_cons (pv 9) (pa_cons (pv 14) (pa_cons (pv 14) pa_nil))))) pa_nil)))
    (pss_cons (ps_if (pt_cmpR (op_neG (D := DTup _ DPl) (mon_tup mon_pl) (eqG_tup mon_pl eqG_pl) (hr.mono (by decide))) (pv 12) (pe_op op_cat (pe_op op_rep (pe_lst (pa_cons (pe_tup (pa_cons pe_str (pa_cons (pv 13) pa_nil))) pa_nil)) pe_int) (pe_lst (pa_cons (pe_tup (pa_cons pe_str (pa_cons (pv 14) pa_nil))) pa_nil))) (nomark _)) (pss_one (ps_ret pe_bl)) pss_nil) hu))), ?_⟩
  rintro D H0 H a n σ ⟨p, l, on, t, v, o, x, ns, m, u1, u4, u7, u8, u10, u11, u12, rfl, hP, hTb, hp0, core, hodd, plo, hxin⟩ q
  have sx : ∀ G : Hp, SpotV K G ns (.str x) true := fun G => .inl ⟨x, rfl, (decide_eq_true hxin).symm⟩
  -- no name, at first
  refine ⟨hTb, fun H1 e1 tb1 => ?_⟩
  have c1 := core.ext e1
  have o1 := hodd.ext e1
  refine ⟨_, rfl, _, rfl, t, o, .non, ns, _, rfl, c1.tab, .inl ⟨(CN, sName, o), .one o .non o1, fun dd H2 s2 hdd hx => ?_⟩⟩
  refine .inr (.inl ⟨rfl, dd, _, o, rfl, hx, rfl, fun r hr1 => ⟨(by show 1 ≤ sizeLine; decide), fun f hf => ?_⟩⟩)
  have s3 := s2.trans ((same_new hr1 (.tup [V.str "name", o])).trans (same_new hf (.lst [V.ref r])))
  have hbf : H2 f = none := by
    cases e : H2 f with
    | none => rfl
    | some o2 =>
      have z := same_new hr1 (.tup [V.str "name", o]) _ _ e
      rw [hf] at z
      cases z
  have core2 := c1.ext (.of s2)
  have o2 := o1.ext (.of s2)
  have hP2 := (hP.ext e1).same s2
  have gr1 : Grow [(Pt, qLam)] H2 f [("name", o)] (upd (upd H2 r (.tup [V.str "name", o])) f (.lst [V.ref r])) := by
    refine ⟨.of ((same_new hr1 _).trans (same_new hf _)), hbf, tb1.ext s3, [r], upd_same, .cons ?_ .nil⟩
    exact same_new hf _ _ _ upd_same
  generalize upd (upd H2 r (.tup [V.str "name", o])) f (.lst [V.ref r]) = H3 at gr1
  clear core c1 o1 hodd s3 s2 hdd hx hr1 hf e1 tb1
  -- no name, behind
  obtain ⟨rs, hf, _⟩ := id gr1.met
  refine ⟨_, rfl, .inl ⟨rfl, _, SqL.of hf⟩, gr1.tabs, fun H4 e4 tb4 => ?_⟩
  have g4 := gr1.more e4 tb4
  refine ⟨_, rfl, _, rfl, _, rfl, t, .str x, o, ns, _, rfl, (core2.ext g4.ext).tab, .inl ⟨(CN, sName, o), .two (.str x) o (sx _) (o2.ext g4.ext), fun dd H5 s5 hdd hx => ?_⟩⟩
  refine .inr (.inl ⟨rfl, dd, _, o, rfl, hx, rfl, fun r2 hr2 => ?_⟩)
  obtain ⟨xs, ex, lt, g6⟩ := (g4.same s5).app (wd := "name") (v := o) hr2 (by show 1 ≤ 10; decide)
  refine ⟨f, xs, _, rfl, rfl, ex, lt, ?_⟩
  clear ex lt hr2 hx hdd s5 g4 e4 tb4 hf gr1
  generalize upd (upd H5 r2 _) f (.lst (xs ++ [V.ref r2])) = H6 at g6
  -- one name twice
  obtain ⟨rs, hf, _⟩ := id g6.met
  refine ⟨_, rfl, .inl ⟨rfl, _, SqL.of hf⟩, g6.tabs, fun H4 e4 tb4 => ?_⟩
  have g4 := g6.more e4 tb4
  refine ⟨_, rfl, _, rfl, _, rfl, t, .str x, .str x, ns, _, rfl, (core2.ext g4.ext).tab, .inl ⟨(CS, sName, .str x), .same x hxin, fun dd H5 s5 hdd hx => ?_⟩⟩
  refine .inr (.inr (.inl ⟨rfl, dd, _, .str x, rfl, hx, rfl, fun r2 hr2 => ?_⟩))
  obtain ⟨xs, ex, lt, g8⟩ := (g4.same s5).app (wd := "same") (v := .str x) hr2 (by show 2 ≤ 10; decide)
  refine ⟨f, xs, _, rfl, rfl, ex, lt, ?_⟩
  clear ex lt hr2 hx hdd s5 g4 e4 tb4 hf g6
  generalize upd (upd H5 r2 _) f (.lst (xs ++ [V.ref r2])) = H8 at g8
  -- all that was met
  obtain ⟨rs, hf, pr⟩ := id g8.met
  obtain ⟨r1, r2, r3, rfl, p1, p2, p3⟩ : ∃ r1 r2 r3, rs = [r1, r2, r3] ∧ H8 r1 = some (.tup [.str "name", o]) ∧ H8 r2 = some (.tup [.str "name", o]) ∧ H8 r3 = some (.tup [.str "same", .str x]) := by
    cases pr with
    | cons a1 pr => cases pr with
      | cons a2 pr => cases pr with
        | cons a3 pr =>
          cases pr
          exact ⟨_, _, _, rfl, a1, a2, a3⟩
  clear pr
  refine ⟨_, rfl, _, rfl, (by show 2 ≤ sizeLine; decide), fun t5 h5 => ⟨(by show 1 ≤ sizeLine; decide), fun g2 hg2 => ?_⟩⟩
  have s6 := same_new h5 (.tup [.str "name", o])
  have c6 : (upd H8 t5 (.tup [.str "name", o])) t5 = some (.tup [.str "name", o]) := upd_same
  generalize upd H8 t5 (.tup [.str "name", o]) = I6 at s6 c6 hg2 ⊢
  have s7 := same_new hg2 (.lst [.ref t5])
  have c7 : (upd I6 g2 (.lst [.ref t5])) g2 = some (.lst [.ref t5]) := upd_same
  generalize upd I6 g2 (.lst [.ref t5]) = I7 at s7 c7 ⊢
  refine ⟨g2, 2, _, rfl, rfl, c7, by decide, by decide, (by show 1 * 2 ≤ sizeLine; decide), fun g3 hg3 => ?_⟩
  have er : (List.replicate (2 : Int).toNat [V.ref t5]).flatten = [.ref t5, .ref t5] := rfl
  rw [er]
  have s8 := same_new hg3 (.lst [.ref t5, .ref t5])
  have c8 : (upd I7 g3 (.lst [.ref t5, .ref t5])) g3 = some (.lst [.ref t5, .ref t5]) := upd_same
  generalize upd I7 g3 (.lst [.ref t5, .ref t5]) = I8 at s8 c8 ⊢
  refine ⟨_, rfl, (by show 2 ≤ sizeLine; decide), fun t7 h7 => ⟨(by show 1 ≤ sizeLine; decide), fun g4 hg4 => ?_⟩⟩
  have s9 := same_new h7 (.tup [.str "same", .str x])
  have c9 : (upd I8 t7 (.tup [.str "same", .str x])) t7 = some (.tup [.str "same", .str x]) := upd_same
  generalize upd I8 t7 (.tup [.str "same", .str x]) = I9 at s9 c9 hg4 ⊢
  have s10 := same_new hg4 (.lst [.ref t7])
  have c10 : (upd I9 g4 (.lst [.ref t7])) g4 = some (.lst [.ref t7]) := upd_same
  generalize upd I9 g4 (.lst [.ref t7]) = I10 at s10 c10 ⊢
  refine ⟨g3, g4, _, _, rfl, rfl, s10 _ _ (s9 _ _ c8), c10, (by show 2 + 1 ≤ sizeLine; decide), fun g5 hg5 => ?_⟩
  have e11 : upd I10 g5 (.lst ([.ref t5, .ref t5] ++ [.ref t7])) = upd I10 g5 (.lst [.ref t5, .ref t5, .ref t7]) := rfl
  rw [e11]
  have s11 := same_new hg5 (.lst [.ref t5, .ref t5, .ref t7])
  have c11 : (upd I10 g5 (.lst [.ref t5, .ref t5, .ref t7])) g5 = some (.lst [.ref t5, .ref t5, .ref t7]) := upd_same
  generalize upd I10 g5 (.lst [.ref t5, .ref t5, .ref t7]) = I11 at s11 c11 ⊢
  have z9 := s10.trans s11
  have z6 := s7.trans (s8.trans (s9.trans z9))
  have z5 := s6.trans z6
  refine ⟨⟨f, g5, _, _, rfl, rfl, z5 _ _ hf, c11, .cons (dt2 (z5 _ _ p1) (z6 _ _ c6) plo) (.cons (dt2 (z5 _ _ p2) (z6 _ _ c6) plo) (.cons (dt2 (z5 _ _ p3) (z9 _ _ c9) pl_str) .nil))⟩, fun H' e => ⟨_, rfl, iteF ?_⟩⟩
  have g9 := g8.same (z5.trans e)
  exact q _ _ ⟨p, l, on, t, v, ns, m, _, _, _, _, _, _, _, _, _, rfl, hP2.ext g9.ext, g9.tabs, hp0, core2.ext g9.ext⟩
end
end Rw
set_option Elab.async false
set_option linter.all false
set_option maxRecDepth 100000
set_option maxHeartbeats 4000000
namespace Rw
open PySem L2
theorem sqL_extB {K : PySem.W.Frag} {H0 H' : Hp} {p a : Addr} {xs : List V} (hp : H0 p = none) (h : ExtB p H0 H') (e : SqL K H0 a xs) : SqL K H' a xs := by
  rcases e with (e | ⟨o, e⟩) | e
  · exact .inl (.inl (h _ _ e (fun _ z => nomatch z) (ne_of_none e hp)))
  · exact .inl (.inr ⟨o, h _ _ e (fun _ z => nomatch z) (ne_of_none e hp)⟩)
  · exact .inr e
section
variable {P : Program} {w : World} {K : PySem.W.Frag} {mg : Str → Option Value} {base : Heap}
theorem rd_law7 {fl fM fS C CU CN CS CE c Pt : Addr} {dM dS : FuncData} {A : Around} {outer : List Env} {s : Shared} {Hs : Hp} {E : XK}
    (FM : Fun K "_law_met" "_law_met" sMet fM dM) (bM : Binds K dM ["_law_ask"] []) (mM : mg "_law_met" = some (.ref fM)) (TB : LamX.TabB base mg c Pt) (mU : mg "UnlikeNames" = some (.ref CU)) (mN : mg "NoName" = some (.ref CN)) (mS : mg "SameName" = some (.ref CS)) (mE : mg "Empty" = some (.ref CE)) (ER : Errs K CU CN CS CE)
    (gS : Got P w K mg base (L2.CX P w) 5 "spread" ["table", "one", "other"] (spSpread K C CN CS CE) fS dS)
    (hr : Room 12 (A.deeper (PyProof.Rows.envOfC "law" (defScope sLaw) s.heap.objs.size fl (.ref c)))) :
    ∃ t, PSs (cxOf CX0 P w K mg base nLaw "law" (defScope sLaw) fl (.ref c) A outer s Hs E).nox (lawFor.drop 19) t ∧
      ∀ (D : Ends) (H0 H : Hp) (a : Addr) (zs : List Int) (n : Nat) (σ : L2.St), SqL K H0 a (zs.map V.int) → AtC K C Pt H0 a n σ H →
        (∀ (u1 u2 u3 u4 u5 u6 u7 u8 u9 u10 u11 u12 u13 u14 : Option V) H', SqL K H' a (zs.map V.int) → LamX.Tabs [(Pt, qLam)] H' → D.nx [some (.ref a), u1, u2, u3, u4, u5, u6, u7, u8, u9, u10, u11, u12, u13, u14] H') → t D σ H := by
  have hu64 := Nat.lt_of_le_of_lt (Nat.add_le_add_left (by decide : 64 ≤ 64) _) hr.units
  refine ⟨_, pss_one (ps_if (PW.pt (pw_and (pt_cmpR op_isN (pv 6) pe_non (nomark _)) (pw_and1 (pt_cmpR (op_neD hu64)
      (pe_lamF (k := 9) (T := [(Pt, qLam)]) (TT := TMet CU CN CS CE) (t := fun E => tCallS (spSpread K C CN CS CE) (fun σ => WE (fun cls d x H => E cls d H) σ) (tCons (tVar 9) (tCons (tOp (rIx K) (tVar 5) (tUn (rU fun i => V.int (-i)) (tC (.int 1)))) (tCons (tC (.str "")) tNil)))) FM bM rfl mM scMet rfl (Or.inl rfl) (fun _ => met_gives mU mN mS mE ER _) TB rfl rfl (hr.mono (by decide)) (LamX.lamS_by (sc := defScope sLaw) (by decide +kernel)) rfl (fun _ _ _ _ _ => rfl)
        (fun A o s H E f c' hr => pe_callS gS.G (hr.mono (by decide)) rfl gS.m gS.k gS.b (fun σ => passAt (takes_of rfl rfl rfl rfl) σ) (pa_cons (pv 9) (pa_cons (pe_ix ix_seq (pv 5) (pe_un un_neg pe_int) (fun _ _ => rfl)) (pa_cons pe_str pa_nil)))))
      (pe_tup (pa_cons pe_str (pa_cons pe_non pa_nil))) (nomark _))))) (pss_one (ps_ret pe_bl)) pss_nil), ?_⟩
  rintro D H0 H a zs n σ hS ⟨p, l, on, t, v, ns, m, u1, u4, u7, u8, u10, u11, u12, u13, u14, rfl, hP, hTb, hp0, core⟩ q
  refine ⟨_, rfl, rfl, _, rfl, ?_⟩
  refine ite2 (fun hv => ?_) (fun _ => ?_)
  · have hbad := core.vb (of_decide_eq_true hv)
    have hshut : shutM (ns.length + 1) (gridM ns (tabM ns m)) = none := by
      rcases told_law core.hd core.g1 with ⟨e, _⟩ | ⟨M', _, hnb, _⟩
      · exact e
      · exact absurd hbad hnb
    refine ⟨hTb, fun H1 e1 tb1 => ?_⟩
    have c1 := core.ext e1
    obtain ⟨x, init, ei⟩ : ∃ x init, ns = init ++ [x] := by
      have hne : ns ≠ [] := fun z => by
        have := core.h0
        rw [z] at this
        exact absurd this (by decide)
      exact ⟨ns.getLast hne, ns.dropLast, (List.dropLast_concat_getLast hne).symm⟩
    have hx : x ∈ ns := by rw [ei]; exact List.mem_append_right _ List.mem_cons_self
    have hxe : x ≠ "" := fun z => by
      subst z
      exact (List.nodup_cons.mp core.hd.nd).1 hx
    have hat : atI ((spots ns).map V.str) (-1) = some (V.str x) := by
      have z := atI_last ((spots init).map V.str) (V.str x)
      have e2 : (spots ns).map V.str = (spots init).map V.str ++ [V.str x] := by
        rw [ei]
        show V.str "" :: (init ++ [x]).map V.str = _
        rw [List.map_append]
        rfl
      rw [e2]
      exact z
    refine ⟨_, rfl, _, rfl, 1, rfl, rIx_seq (.inl (SqL.of c1.hon)) hat ?_⟩
    refine ⟨t, .str x, .str "", ns, _, rfl, c1.tab, .inr ⟨x, "", rfl, rfl, List.mem_cons_of_mem _ hx, List.mem_cons_self, hxe, hshut, fun d H2 s2 => ?_⟩⟩
    refine .inr (.inr (.inr ⟨rfl, fun r hr1 => ?_⟩))
    refine ⟨(by show 2 ≤ sizeLine; decide), fun t2 ht2 => ?_⟩
    have s3 := same_new hr1 (.tup [.str "empty", .non])
    have s4 := same_new ht2 (.tup [.str "empty", .non])
    have k1 := s4 _ _ (upd_same (H := H2) (a := r) (o := .tup [.str "empty", .non]))
    refine ⟨.tuple [.str "empty", .none], .tuple [.str "empty", .none], .tup (SqT.of k1) (.cons (.str _) (.cons .non .nil)), .tup (SqT.of upd_same) (.cons (.str _) (.cons .non .nil)), by decide +kernel, by decide +kernel, ⟨_, rfl, ?_⟩⟩
    have ee : PyData.eqv (.tuple [.str "empty", .none]) (.tuple [.str "empty", .none]) = true := by decide +kernel
    rw [ee]
    refine iteF ?_
    have s24 := (s2.trans s3).trans s4
    have cf := c1.ext (.of s24)
    exact q _ _ _ _ _ _ _ _ _ _ _ _ _ _ _ (sqL_extB hp0 cf.x hS) (tb1.ext s24)
  · exact iteF (q _ _ _ _ _ _ _ _ _ _ _ _ _ _ _ (sqL_extB hp0 core.x hS) hTb)
def spLaw (K : PySem.W.Frag) (Pt : Addr) : Sp := fun vs H Q _ => ∃ (a : Addr) (zs : List Int), vs = [.ref a] ∧ SqL K H a (zs.map V.int) ∧ zs.length ≤ 63 ∧ LamX.Tabs [(Pt, qLam)] H ∧ ∀ H', Q (.bl true) H'
theorem ok_law {fl fC fP fN fO fD fT fY fR fS fWi fA fL fI fM fSp C CU CN CS CE c Pt : Addr} {dC dP dN dO dD dT dY dR dS dWi dA dL dI dM dSp fdl : FuncData}
    (F : Fun K "law" "law" sLaw fl fdl) (hcode : fdl.code = .ref c)
    (gC : Got P w K mg base CX0 1 "_law_cell" ["_law_script", "_law_k"] (spCell K) fC dC) (gP : Got P w K mg base CX0 1 "_law_pool" ["_law_cell_here"] spPool fP dP) (gN : Got P w K mg base CX0 3 "_law_names" ["_law_pool_here", "_law_many"] spNames fN dN)
    (gO : Got P w K mg base CX0 2 "_law_one" ["_law_pool_here", "_law_things"] (spOne K) fO dO) (gD : Got P w K mg base CX0 3 "_law_drawn" ["_law_pool_here", "_law_names_here"] (spDrawn K) fD dD) (gT : Got P w K mg base CX0 6 "_law_table" nTable (spTable K C) fT dT)
    (gY : Got P w K mg base CX0 8 "_law_ways" ["_law_bounds", "_law_ones"] (spWays3 K) fY dY) (gR : Got P w K mg base CX0 4 "_law_other" ["_law_pool_here", "_law_names_here", "_law_bounds", "_law_ways_here"] (spOther K) fR dR)
    (gS : Got P w K mg base CX0 1 "_law_same" ["_law_found", "_law_due"] spSame fS dS) (gW : Got P w K mg base (L2.CX P w) 4 "within" ["one", "other"] (spWithin K C CU) fWi dWi) (gA : Got P w K mg base (L2.CX P w) 5 "alike" ["one", "other"] (spAlike K C CU) fA dA)
    (gL : Got P w K mg base CX0 2 "_law_lies" ["_law_ways_here", "_law_bounds"] (spLies K) fL dL) (GT : FnOk P w K mg base CX0 4 fI dI ["self", "names", "bounds"] (spTInit K C)) (MT : L2.Mk K C fI) (bT : Binds K dI ["self", "names", "bounds"] []) (mC : mg "Table" = some (.ref C))
    (FM : Fun K "_law_met" "_law_met" sMet fM dM) (bM : Binds K dM ["_law_ask"] []) (mM : mg "_law_met" = some (.ref fM)) (TB : LamX.TabB base mg c Pt) (mU : mg "UnlikeNames" = some (.ref CU)) (mN : mg "NoName" = some (.ref CN)) (mS : mg "SameName" = some (.ref CS)) (mE : mg "Empty" = some (.ref CE)) (ER : Errs K CU CN CS CE)
    (gSp : Got P w K mg base (L2.CX P w) 5 "spread" ["table", "one", "other"] (spSpread K C CN CS CE) fSp dSp) (ml : mg "len" = none) (mr : mg "range" = none) : FnOk P w K mg base CX0 13 fl fdl ["_law_script"] (spLaw K Pt) := by
  obtain ⟨oc, od, kV, doc, pm, an, cdv, ct, osl, rfl, lk, hcg⟩ := F.ex
  have hcode : cdv = .ref c := hcode
  subst hcode
  refine fn_of (N := nLaw) lk hcg scLaw (fun vs H Q E h => ?_) fun A outer s H vs Q E hr h => ?_
  · obtain ⟨a, zs, rfl, _⟩ := h
    rfl
  obtain ⟨a, zs, rfl, hS, hl, hT, q⟩ := h
  obtain ⟨t7, p7, r7⟩ := rd_law7 (fl := fl) (A := A) (outer := outer) (s := s) (Hs := H) (E := E) FM bM mM TB mU mN mS mE ER gSp hr
  obtain ⟨t6, p6, r6⟩ := rd_law6 FM bM mM TB mU mN mS mE ER gSp hr p7
  obtain ⟨t5, p5, r5⟩ := rd_law5 (C := C) (Pt := Pt) gO hr p6
  obtain ⟨t4, p4, r4⟩ := rd_law4 (C := C) FM bM mM TB mU mN mS mE ER gW gA hr p5
  obtain ⟨t3, p3, r3⟩ := rd_law3 (Pt := Pt) gO GT MT bT mC ml hr p4
  obtain ⟨t2, p2, r2⟩ := rd_law2 gS gW gA gL hr p3
  obtain ⟨t1, p1, r1⟩ := rd_law1 gC gP gN gO gD gT gY gR hr p2
  refine ⟨_, PSs.nox (pss_cons (ps_for PassesOwn.never rfl (pi_range1 rfl mr (pa_cons pe_int pa_nil)) (pg_name (i := 1) scLaw.nd rfl (Or.inl rfl)) p1) (pss_one (ps_ret pe_bl))), ?_⟩
  refine ⟨5, rfl, by decide, by decide, for_range (n := 5) (fun _ σ H' => ∃ u1 u2 u3 u4 u5 u6 u7 u8 u9 u10 u11 u12 u13 u14 : Option V, σ = [some (.ref a), u1, u2, u3, u4, u5, u6, u7, u8, u9, u10, u11, u12, u13, u14] ∧ SqL K H' a (zs.map V.int) ∧ LamX.Tabs [(Pt, qLam)] H') ?_ ?_ ?_⟩
  · exact ⟨none, none, none, none, none, none, none, none, none, none, none, none, none, none, rfl, hS, hT⟩
  · rintro i σ H1 hi ⟨u1, u2, u3, u4, u5, u6, u7, u8, u9, u10, u11, u12, u13, u14, rfl, hS1, hT1⟩
    rw [Int.zero_add]
    refine r1 _ H1 a i zs u2 u3 u4 u5 u6 u7 u8 u9 u10 u11 u12 u13 u14 hS1 hl fun σ2 H2 h2 => ?_
    refine r2 _ H1 H2 a i _ σ2 h2 fun σ3 H3 h3 => ?_
    refine r3 _ H1 H3 a i _ σ3 (by decide) hT1 h3 fun σ4 H4 h4 => ?_
    refine r4 _ H1 H4 a _ σ4 h4 fun σ5 H5 h5 => ?_
    refine r5 _ H1 H5 a _ σ5 (by decide) h5 fun σ6 H6 h6 => ?_
    refine r6 _ H1 H6 a _ σ6 h6 fun σ7 H7 h7 => ?_
    refine r7 _ H1 H7 a zs _ σ7 hS1 h7 fun w1 w2 w3 w4 w5 w6 w7 w8 w9 w10 w11 w12 w13 w14 H8 hS8 hT8 => ?_
    exact ⟨_, _, _, _, _, _, _, _, _, _, _, _, _, _, rfl, hS8, hT8⟩
  · rintro σ H1 ⟨u1, u2, u3, u4, u5, u6, u7, u8, u9, u10, u11, u12, u13, u14, rfl, _⟩
    exact q H1
end
end Rw
set_option Elab.async false
set_option linter.all false
set_option maxRecDepth 100000
set_option maxHeartbeats 0
namespace Rw
open PySem L2
/-! ### the head: facts by names -/
theorem funOf {K : PySem.W.Frag} {x q : Str} {st : Stmt} {f : Addr} {fd : FuncData} (F : FunD K x q (defArgs st) (defBody st) (defScope st) [] [] f fd) : Fun K x q st f fd := by
  obtain ⟨oc, od, dV, kV, doc, pm, an, cdv, ct, osl, rfl, lk, hcd, hD, hK⟩ := F.ex
  rcases hD with ⟨_, rfl⟩ | ⟨e, _⟩
  · exact ⟨⟨oc, od, kV, doc, pm, an, cdv, ct, osl, rfl, lk, hcd⟩, F.kp⟩
  · exact absurd rfl e
def mkD (x : Str) (st : Stmt) : He.DefD := ⟨(x, none), x, x, defArgs st, defBody st, defScope st, [], []⟩
def mkM (c x q : Str) (st : Stmt) : He.DefD := ⟨(c, some x), x, q, defArgs st, defBody st, defScope st, [], []⟩
def fnP : List He.DefD := [mkD "is_integer" sIsInteger, mkD "is_list" sIsList, mkD "is_name" sIsName, mkD "bad_name_at" sBadNameAt, mkD "is_upper" sIsUpper, mkD "code_of" sCodeOf, mkD "tighter_code" sTighter, mkD "code_sum" sCodeSum, mkD "is_spot" sIsSpot, mkD "is_spot_pair" sIsSpotPair, mkD "ordered_bounds" sOrdered, mkM "Table" "__init__" "Table.__init__" sTInit, mkM "Table" "names" "Table.names" sTNames, mkM "Table" "bound" "Table.bound" sTBound, mkM "Table" "bounds" "Table.bounds" sTBounds, mkM "NoName" "__init__" "NoName.__init__" sNNInit, mkM "SameName" "__init__" "SameName.__init__" sSNInit, mkM "Empty" "__init__" "Empty.__init__" sEmInit, mkD "check_alike_names" sAlikeN, mkD "grid_of" sGridOf, mkD "shut" sShut, mkD "closed_grid" sClosedGrid, mkD "ring" sRing, mkD "first_walk" sFirst, mkD "longer_walk" sLonger, mkD "filled_grid" sFilled, mkD "spread" sSpread, mkD "alike" sAlike, mkD "within" sWithin, mkD "is_as_tight" sAsTight]
def fnL : List He.DefD := [mkD "_law_cell" sCell, mkD "_law_pool" sPool, mkD "_law_take" sTake, mkD "_law_mixed" sMixed, mkD "_law_names" sNames, mkD "_law_one" sOne, mkD "_law_word" sWord, mkD "_law_words" sWords, mkD "_law_pairs" sPairs, mkD "_law_drawn" sDrawn, mkD "_law_more" sMore, mkD "_law_tight" sTight, mkD "_law_bars" sBars, mkD "_law_way" sWay, mkD "_law_ways" sWays, mkD "_law_handed" sHanded, mkD "_law_table" sTable, mkD "_law_same" sSame, mkD "_law_met" sMet, mkD "_law_other" sOther, mkD "_law_lies" sLies, mkD "law" sLaw]
def fnA : List He.DefD := fnP ++ fnL
def gloN : List Str := ["is_integer", "is_list", "is_name", "bad_name_at", "is_upper", "code_of", "tighter_code", "code_sum", "is_spot", "is_spot_pair", "ordered_bounds", "check_alike_names", "grid_of", "shut", "closed_grid", "ring", "first_walk", "longer_walk", "filled_grid", "spread", "alike", "within", "is_as_tight", "Table", "NoName", "SameName", "Empty", "UnlikeNames"]
def gloL : List Str := ["_law_cell", "_law_pool", "_law_take", "_law_mixed", "_law_names", "_law_one", "_law_word", "_law_words", "_law_pairs", "_law_drawn", "_law_more", "_law_tight", "_law_bars", "_law_way", "_law_ways", "_law_handed", "_law_table", "_law_same", "_law_met", "_law_other", "_law_lies", "law"]
def freeN : List Str := ["len", "sum", "int", "dict", "list", "tuple", "isinstance", "str", "bool", "all", "any", "enumerate", "range", "max"]
def faA : List He.Fa := (gloN.map He.Fa.glo ++ gloL.map He.Fa.glo) ++ (freeN.map He.Fa.free ++ [.int "LONGEST_NAME" 8, .int "UPTO_ZERO" 1, .str "LETTERS" letters, .cls "Table", .noat "Table" "_names", .noat "Table" "_bounds", .noat "NoName" "name", .noat "SameName" "name", .noat "Empty" "ring", .meth "Table" "names", .meth "Table" "bound", .meth "Table" "bounds", .mkr "Table", .exm "UnlikeNames" "UnlikeNames" true, .exm "NoName" "UnlikeNames" false, .exm "NoName" "NoName" true, .exm "SameName" "UnlikeNames" false, .exm "SameName" "NoName" false, .exm "SameName" "SameName" true, .exm "Empty" "UnlikeNames" false, .exm "Empty" "NoName" false, .exm "Empty" "SameName" false, .exm "Empty" "Empty" true])
/-- an own error class with its own __init__ -/
def oexB (K : PySem.W.Frag) (C : Addr) : Bool := (match K.lookup C with
    | some ⟨.type c, _, .cls cd, sl⟩ => (match cd.mro, sl.toList with
      | .ref C' :: bm, [_, _, _, _, some (.builtin n), _] => decide (c = "type") && (decide (C' = C) && (decide (n = "ValueError.__new__") && (!cd.hasDel && (cd.hasDict && PySem.HandSPX.refsVE bm))))
      | _, _ => false)
    | _ => false) && (decide (PySem.W.findIn K (.ref C) "__setattr__" = some (some (.builtin "object.__setattr__"))) && (decide (PySem.W.subIn K (.ref C) (.type "BaseException") = some true) && (decide (PySem.W.typeIn K (.ref C) = some (.type "type")) && PySem.W.keepIn K (.ref C))))
theorem oexB_ok {K : PySem.W.Frag} {C : Addr} (h : oexB K C = true) : OexC K C := by
  obtain ⟨h1, h⟩ := He.ba h
  obtain ⟨h2, h⟩ := He.ba h
  obtain ⟨h3, h⟩ := He.ba h
  obtain ⟨h4, h5⟩ := He.ba h
  refine ⟨?_, of_decide_eq_true h2, of_decide_eq_true h3, of_decide_eq_true h4, h5⟩
  split at h1
  · rename_i c od cd sl lk
    split at h1
    · rename_i C' bm k0 k1 k2 k3 n k5 e1 e2
      obtain ⟨g1, h1⟩ := He.ba h1
      obtain ⟨g2, h1⟩ := He.ba h1
      obtain ⟨g3, h1⟩ := He.ba h1
      obtain ⟨g4, h1⟩ := He.ba h1
      obtain ⟨g5, g6⟩ := He.ba h1
      obtain ⟨nm, bs, mro, ns, q, hd, sn, sub, ab, col, hdel⟩ := cd
      have e1 : mro = .ref C' :: bm := e1
      have g4 : hdel = false := by
        have z : (!hdel) = true := g4
        cases hdel with
        | false => rfl
        | true => cases z
      have g5 : hd = true := g5
      have e3 : sl = #[k0, k1, k2, k3, some (.builtin n), k5] := by
        rw [← Array.toList_inj, e2]
      refine ⟨nm, q, ns, bs, bm, sn, sub, ab, col, od, k0, k1, k2, k3, k5, ?_, g6⟩
      rw [lk, e1, e3, g4, g5, of_decide_eq_true g1, of_decide_eq_true g2, of_decide_eq_true g3]
    · cases h1
  · cases h1
/-- what more is asked of the classes -/
def exA (K : PySem.W.Frag) : Bool := (oexB K (He.ga K "NoName") && (xfB K (He.ga K "NoName") && (He.eqO (PySem.W.findIn K (.ref (He.ga K "NoName")) "__init__") (some (some (.ref (He.ma K (He.ga K "NoName") "__init__")))) && decide (PySem.W.typeIn K (.ref (He.ma K (He.ga K "NoName") "__init__")) = some (.type "function"))))) && ((oexB K (He.ga K "SameName") && (xfB K (He.ga K "SameName") && (He.eqO (PySem.W.findIn K (.ref (He.ga K "SameName")) "__init__") (some (some (.ref (He.ma K (He.ga K "SameName") "__init__")))) && decide (PySem.W.typeIn K (.ref (He.ma K (He.ga K "SameName") "__init__")) = some (.type "function"))))) && ((oexB K (He.ga K "Empty") && (xfB K (He.ga K "Empty") && (He.eqO (PySem.W.findIn K (.ref (He.ga K "Empty")) "__init__") (some (some (.ref (He.ma K (He.ga K "Empty") "__init__")))) && decide (PySem.W.typeIn K (.ref (He.ma K (He.ga K "Empty") "__init__")) = some (.type "function"))))) && (PySem.W.excIn K (He.ga K "UnlikeNames") [.type "ValueError", .type "Exception", .type "BaseException", .type "object"] "ValueError.__new__" && (PySem.W.keepIn K (.ref (He.ga K "UnlikeNames")) && (decide (PySem.W.subIn K (.ref (He.ga K "UnlikeNames")) (.type "BaseException") = some true) && decide (PySem.W.typeIn K (.ref (He.ga K "UnlikeNames")) = some (.type "type")))))))
abbrev defL : He.Defn := ("law", none)
abbrev R0 : PySem.W.OpenRow := PySem.W.OpenLaw.row PySem.Challenge.rw_rowsintime_k05_whole_within_and_spread
abbrev hkA : PySem.W.Hook := He.hookX 5 faA fnA [] [defL] exA
def obA (s : PySem.W.SharedT) : He.AlX := He.obsX 5 faA fnA [] [defL] exA (HandSHeadRun.getT s)
theorem obA_eq (s : PySem.W.SharedT) : obA s = hkA.obs s.abs := He.obsX_eq (HandSHeadRun.getT_eq s)
def nm1 : List PySem.Str := ["LETTERS", "LONGEST_NAME", "is_integer", "is_list", "is_name", "bad_name_at", "UPTO_ZERO", "is_upper", "code_of", "upper_of", "lower_of", "tighter_code", "code_sum", "ClockError", "BadNames", "BadBound", "NoName", "SameName"]
def nm3 : List PySem.Str := ["UnlikeNames", "Empty", "Table", "is_spot", "is_spot_pair", "ordered_bounds", "check_alike_names", "grid_of", "shut", "closed_grid", "ring", "first_walk", "longer_walk", "filled_grid", "spread", "alike", "within", "is_as_tight"]
def nm2 : List PySem.Str := ["_law_cell", "_law_pool", "_law_take", "_law_mixed", "_law_names", "_law_one", "_law_word", "_law_words", "_law_pairs", "_law_drawn", "_law_more", "_law_tight", "_law_bars", "_law_way", "_law_ways", "_law_handed", "_law_table", "_law_same", "_law_met", "_law_other", "_law_lies"]
def names0 : List PySem.Str := (nm1 ++ nm3) ++ nm2
end Rw
set_option Elab.async false
set_option linter.all false
set_option maxRecDepth 100000
set_option maxHeartbeats 0
namespace Rw
open PySem PySem.W PySem.Calls PyProof.Rows
theorem run0 (w : World) : HandSHeadRun.RunEq R0 (view R0.prog [65]) hkA obA 20000 names0 w := by
  intro os
  kernel_rfl
end Rw
set_option Elab.async false
set_option linter.all false
set_option maxRecDepth 100000
set_option maxHeartbeats 8000000
namespace Rw
open PySem L2
section
variable {K : PySem.W.Frag} {h : Heap} {mg : Str → Option Value} {w : World}
theorem gloA (X : K.In h) (G : h.Ns mainGlobals mg) (c : He.SaysX faA fnA [] [defL] exA w h K) {x : Str} (i : Nat) (e : faA[i]? = some (.glo x) := by rfl) : mg x = some (.ref (He.ga K x)) := He.glo_ok X G (c.t.d.fact i e)
theorem freeA (X : K.In h) (G : h.Ns mainGlobals mg) (c : He.SaysX faA fnA [] [defL] exA w h K) {x : Str} (i : Nat) (e : faA[i]? = some (.free x) := by rfl) : mg x = none := He.free_ok X G (c.t.d.fact i e)
theorem defA (c : He.SaysX faA fnA [] [defL] exA w h K) {x : Str} {st : Stmt} (i : Nat) (e : fnA[i]? = some (mkD x st) := by rfl) : ∃ fd, Fun K x x st (He.ga K x) fd := by
  obtain ⟨fd, F⟩ := c.t.d.def_ i e
  exact ⟨fd, funOf F⟩
theorem metA (c : He.SaysX faA fnA [] [defL] exA w h K) {C x q : Str} {st : Stmt} (i : Nat) (e : fnA[i]? = some (mkM C x q st) := by rfl) : ∃ fd, Fun K x q st (He.ma K (He.ga K C) x) fd := by
  obtain ⟨fd, F⟩ := c.t.d.def_ i e
  exact ⟨fd, funOf F⟩
theorem facts {P : Program} {fa : Addr} (X : K.In h) (G : h.Ns mainGlobals mg) (hfa : mg ("law" : Str) = some (.ref fa)) (c : He.SaysX faA fnA [] [defL] exA w h K) :
    ∃ (fd : FuncData) (cs : List (Addr × Addr)) (sp : Sp), (∀ p ∈ cs, h.get? p.2 = some { cls := .none, data := .fields #[] }) ∧ (∀ p ∈ cs, K.lookup p.2 = none) ∧ (∀ p ∈ cs, PySem.W.CodeHd h p.1 p.2) ∧ (∀ (s : Shared) (u : Value), BindsTo s fd ⟨[u], []⟩ [("_law_script", u)]) ∧
    (∀ (H : Hp) (a : Addr) (ns : List Int), ns.length ≤ 63 → (∀ z ∈ ns, Builtin.Int.intBits z ≤ 1048576) → (∀ p ∈ cs, H p.2 = some (.tbl #[])) → SqL K H a (ns.map V.int) → sp [.ref a] H (fun v _ => v = .bl true) fun _ _ _ => False) ∧
    ∀ base : Heap, K.In base → base.Ns mainGlobals mg → (∀ p ∈ cs, LamX.TabB base mg p.1 p.2) → FnOk P w K mg base CX0 13 fa fd ["_law_script"] sp := by
  obtain ⟨d_is_integer, F_is_integer⟩ := defA c (x := "is_integer") (st := sIsInteger) 0
  have b_is_integer : Binds K d_is_integer ["thing"] [] := F_is_integer.binds fun _ _ _ _ _ _ us hl => match us, hl with | [_], _ => rfl
  obtain ⟨d_is_list, F_is_list⟩ := defA c (x := "is_list") (st := sIsList) 1
  have b_is_list : Binds K d_is_list ["thing"] [] := F_is_list.binds fun _ _ _ _ _ _ us hl => match us, hl with | [_], _ => rfl
  obtain ⟨d_is_name, F_is_name⟩ := defA c (x := "is_name") (st := sIsName) 2
  have b_is_name : Binds K d_is_name ["thing"] [] := F_is_name.binds fun _ _ _ _ _ _ us hl => match us, hl with | [_], _ => rfl
  obtain ⟨d_bad_name_at, F_bad_name_at⟩ := defA c (x := "bad_name_at") (st := sBadNameAt) 3
  have b_bad_name_at : Binds K d_bad_name_at ["things"] [] := F_bad_name_at.binds fun _ _ _ _ _ _ us hl => match us, hl with | [_], _ => rfl
  obtain ⟨d_is_upper, F_is_upper⟩ := defA c (x := "is_upper") (st := sIsUpper) 4
  have b_is_upper : Binds K d_is_upper ["thing"] [] := F_is_upper.binds fun _ _ _ _ _ _ us hl => match us, hl with | [_], _ => rfl
  obtain ⟨d_code_of, F_code_of⟩ := defA c (x := "code_of") (st := sCodeOf) 5
  have b_code_of : Binds K d_code_of ["bound"] [] := F_code_of.binds fun _ _ _ _ _ _ us hl => match us, hl with | [_], _ => rfl
  obtain ⟨d_tighter_code, F_tighter_code⟩ := defA c (x := "tighter_code") (st := sTighter) 6
  have b_tighter_code : Binds K d_tighter_code ["one", "other"] [] := F_tighter_code.binds fun _ _ _ _ _ _ us hl => match us, hl with | [_, _], _ => rfl
  obtain ⟨d_code_sum, F_code_sum⟩ := defA c (x := "code_sum") (st := sCodeSum) 7
  have b_code_sum : Binds K d_code_sum ["one", "other"] [] := F_code_sum.binds fun _ _ _ _ _ _ us hl => match us, hl with | [_, _], _ => rfl
  obtain ⟨d_is_spot, F_is_spot⟩ := defA c (x := "is_spot") (st := sIsSpot) 8
  have b_is_spot : Binds K d_is_spot ["names", "thing"] [] := F_is_spot.binds fun _ _ _ _ _ _ us hl => match us, hl with | [_, _], _ => rfl
  obtain ⟨d_is_spot_pair, F_is_spot_pair⟩ := defA c (x := "is_spot_pair") (st := sIsSpotPair) 9
  have b_is_spot_pair : Binds K d_is_spot_pair ["names", "thing"] [] := F_is_spot_pair.binds fun _ _ _ _ _ _ us hl => match us, hl with | [_, _], _ => rfl
  obtain ⟨d_ordered_bounds, F_ordered_bounds⟩ := defA c (x := "ordered_bounds") (st := sOrdered) 10
  have b_ordered_bounds : Binds K d_ordered_bounds ["names", "bounds"] [] := F_ordered_bounds.binds fun _ _ _ _ _ _ us hl => match us, hl with | [_, _], _ => rfl
  obtain ⟨d_T__init, F_T__init⟩ := metA c (C := "Table") (x := "__init__") (st := sTInit) 11
  have b_T__init : Binds K d_T__init ["self", "names", "bounds"] [] := F_T__init.binds fun _ _ _ _ _ _ us hl => match us, hl with | [_, _, _], _ => rfl
  obtain ⟨d_Tnames, F_Tnames⟩ := metA c (C := "Table") (x := "names") (st := sTNames) 12
  have b_Tnames : Binds K d_Tnames ["self"] [] := F_Tnames.binds fun _ _ _ _ _ _ us hl => match us, hl with | [_], _ => rfl
  obtain ⟨d_Tbound, F_Tbound⟩ := metA c (C := "Table") (x := "bound") (st := sTBound) 13
  have b_Tbound : Binds K d_Tbound ["self", "one", "other"] [] := F_Tbound.binds fun _ _ _ _ _ _ us hl => match us, hl with | [_, _, _], _ => rfl
  obtain ⟨d_Tbounds, F_Tbounds⟩ := metA c (C := "Table") (x := "bounds") (st := sTBounds) 14
  have b_Tbounds : Binds K d_Tbounds ["self"] [] := F_Tbounds.binds fun _ _ _ _ _ _ us hl => match us, hl with | [_], _ => rfl
  obtain ⟨d_N__init, F_N__init⟩ := metA c (C := "NoName") (x := "__init__") (st := sNNInit) 15
  have b_N__init : Binds K d_N__init ["self", "name"] [] := F_N__init.binds fun _ _ _ _ _ _ us hl => match us, hl with | [_, _], _ => rfl
  obtain ⟨d_S__init, F_S__init⟩ := metA c (C := "SameName") (x := "__init__") (st := sSNInit) 16
  have b_S__init : Binds K d_S__init ["self", "name"] [] := F_S__init.binds fun _ _ _ _ _ _ us hl => match us, hl with | [_, _], _ => rfl
  obtain ⟨d_E__init, F_E__init⟩ := metA c (C := "Empty") (x := "__init__") (st := sEmInit) 17
  have b_E__init : Binds K d_E__init ["self", "ring"] [] := F_E__init.binds fun _ _ _ _ _ _ us hl => match us, hl with | [_, _], _ => rfl
  obtain ⟨d_check_alike_names, F_check_alike_names⟩ := defA c (x := "check_alike_names") (st := sAlikeN) 18
  have b_check_alike_names : Binds K d_check_alike_names ["one", "other"] [] := F_check_alike_names.binds fun _ _ _ _ _ _ us hl => match us, hl with | [_, _], _ => rfl
  obtain ⟨d_grid_of, F_grid_of⟩ := defA c (x := "grid_of") (st := sGridOf) 19
  have b_grid_of : Binds K d_grid_of ["table"] [] := F_grid_of.binds fun _ _ _ _ _ _ us hl => match us, hl with | [_], _ => rfl
  obtain ⟨d_shut, F_shut⟩ := defA c (x := "shut") (st := sShut) 20
  have b_shut : Binds K d_shut ["grid"] [] := F_shut.binds fun _ _ _ _ _ _ us hl => match us, hl with | [_], _ => rfl
  obtain ⟨d_closed_grid, F_closed_grid⟩ := defA c (x := "closed_grid") (st := sClosedGrid) 21
  have b_closed_grid : Binds K d_closed_grid ["table"] [] := F_closed_grid.binds fun _ _ _ _ _ _ us hl => match us, hl with | [_], _ => rfl
  obtain ⟨d_ring, F_ring⟩ := defA c (x := "ring") (st := sRing) 22
  have b_ring : Binds K d_ring ["table"] [] := F_ring.binds fun _ _ _ _ _ _ us hl => match us, hl with | [_], _ => rfl
  obtain ⟨d_first_walk, F_first_walk⟩ := defA c (x := "first_walk") (st := sFirst) 23
  have b_first_walk : Binds K d_first_walk ["steps", "one", "other"] [] := F_first_walk.binds fun _ _ _ _ _ _ us hl => match us, hl with | [_, _, _], _ => rfl
  obtain ⟨d_longer_walk, F_longer_walk⟩ := defA c (x := "longer_walk") (st := sLonger) 24
  have b_longer_walk : Binds K d_longer_walk ["walks", "steps", "other"] [] := F_longer_walk.binds fun _ _ _ _ _ _ us hl => match us, hl with | [_, _, _], _ => rfl
  obtain ⟨d_filled_grid, F_filled_grid⟩ := defA c (x := "filled_grid") (st := sFilled) 25
  have b_filled_grid : Binds K d_filled_grid ["table"] [] := F_filled_grid.binds fun _ _ _ _ _ _ us hl => match us, hl with | [_], _ => rfl
  obtain ⟨d_spread, F_spread⟩ := defA c (x := "spread") (st := sSpread) 26
  have b_spread : Binds K d_spread ["table", "one", "other"] [] := F_spread.binds fun _ _ _ _ _ _ us hl => match us, hl with | [_, _, _], _ => rfl
  obtain ⟨d_alike, F_alike⟩ := defA c (x := "alike") (st := sAlike) 27
  have b_alike : Binds K d_alike ["one", "other"] [] := F_alike.binds fun _ _ _ _ _ _ us hl => match us, hl with | [_, _], _ => rfl
  obtain ⟨d_within, F_within⟩ := defA c (x := "within") (st := sWithin) 28
  have b_within : Binds K d_within ["one", "other"] [] := F_within.binds fun _ _ _ _ _ _ us hl => match us, hl with | [_, _], _ => rfl
  obtain ⟨d_is_as_tight, F_is_as_tight⟩ := defA c (x := "is_as_tight") (st := sAsTight) 29
  have b_is_as_tight : Binds K d_is_as_tight ["one", "other"] [] := F_is_as_tight.binds fun _ _ _ _ _ _ us hl => match us, hl with | [_, _], _ => rfl
  obtain ⟨d_l_cell, F_l_cell⟩ := defA c (x := "_law_cell") (st := sCell) 30
  have b_l_cell : Binds K d_l_cell ["_law_script", "_law_k"] [] := F_l_cell.binds fun _ _ _ _ _ _ us hl => match us, hl with | [_, _], _ => rfl
  obtain ⟨d_l_pool, F_l_pool⟩ := defA c (x := "_law_pool") (st := sPool) 31
  have b_l_pool : Binds K d_l_pool ["_law_cell_here"] [] := F_l_pool.binds fun _ _ _ _ _ _ us hl => match us, hl with | [_], _ => rfl
  obtain ⟨d_l_take, F_l_take⟩ := defA c (x := "_law_take") (st := sTake) 32
  have b_l_take : Binds K d_l_take ["_law_pool_here", "_law_many"] [] := F_l_take.binds fun _ _ _ _ _ _ us hl => match us, hl with | [_, _], _ => rfl
  obtain ⟨d_l_mixed, F_l_mixed⟩ := defA c (x := "_law_mixed") (st := sMixed) 33
  have b_l_mixed : Binds K d_l_mixed ["_law_pool_here", "_law_things"] [] := F_l_mixed.binds fun _ _ _ _ _ _ us hl => match us, hl with | [_, _], _ => rfl
  obtain ⟨d_l_names, F_l_names⟩ := defA c (x := "_law_names") (st := sNames) 34
  have b_l_names : Binds K d_l_names ["_law_pool_here", "_law_many"] [] := F_l_names.binds fun _ _ _ _ _ _ us hl => match us, hl with | [_, _], _ => rfl
  obtain ⟨d_l_one, F_l_one⟩ := defA c (x := "_law_one") (st := sOne) 35
  have b_l_one : Binds K d_l_one ["_law_pool_here", "_law_things"] [] := F_l_one.binds fun _ _ _ _ _ _ us hl => match us, hl with | [_, _], _ => rfl
  obtain ⟨d_l_word, F_l_word⟩ := defA c (x := "_law_word") (st := sWord) 36
  have b_l_word : Binds K d_l_word ["_law_bound"] [] := F_l_word.binds fun _ _ _ _ _ _ us hl => match us, hl with | [_], _ => rfl
  obtain ⟨d_l_words, F_l_words⟩ := defA c (x := "_law_words") (st := sWords) 37
  have b_l_words : Binds K d_l_words ["_law_bounds"] [] := F_l_words.binds fun _ _ _ _ _ _ us hl => match us, hl with | [_], _ => rfl
  obtain ⟨d_l_pairs, F_l_pairs⟩ := defA c (x := "_law_pairs") (st := sPairs) 38
  have b_l_pairs : Binds K d_l_pairs ["_law_ones"] [] := F_l_pairs.binds fun _ _ _ _ _ _ us hl => match us, hl with | [_], _ => rfl
  obtain ⟨d_l_drawn, F_l_drawn⟩ := defA c (x := "_law_drawn") (st := sDrawn) 39
  have b_l_drawn : Binds K d_l_drawn ["_law_pool_here", "_law_names_here"] [] := F_l_drawn.binds fun _ _ _ _ _ _ us hl => match us, hl with | [_, _], _ => rfl
  obtain ⟨d_l_more, F_l_more⟩ := defA c (x := "_law_more") (st := sMore) 40
  have b_l_more : Binds K d_l_more ["_law_one_here", "_law_other_here"] [] := F_l_more.binds fun _ _ _ _ _ _ us hl => match us, hl with | [_, _], _ => rfl
  obtain ⟨d_l_tight, F_l_tight⟩ := defA c (x := "_law_tight") (st := sTight) 41
  have b_l_tight : Binds K d_l_tight ["_law_one_here", "_law_other_here"] [] := F_l_tight.binds fun _ _ _ _ _ _ us hl => match us, hl with | [_, _], _ => rfl
  obtain ⟨d_l_bars, F_l_bars⟩ := defA c (x := "_law_bars") (st := sBars) 42
  have b_l_bars : Binds K d_l_bars ["_law_bound"] [] := F_l_bars.binds fun _ _ _ _ _ _ us hl => match us, hl with | [_], _ => rfl
  obtain ⟨d_l_way, F_l_way⟩ := defA c (x := "_law_way") (st := sWay) 43
  have b_l_way : Binds K d_l_way ["_law_bounds", "_law_here", "_law_goal", "_law_left"] [] := F_l_way.binds fun _ _ _ _ _ _ us hl => match us, hl with | [_, _, _, _], _ => rfl
  obtain ⟨d_l_ways, F_l_ways⟩ := defA c (x := "_law_ways") (st := sWays) 44
  have b_l_ways : Binds K d_l_ways ["_law_bounds", "_law_ones"] [] := F_l_ways.binds fun _ _ _ _ _ _ us hl => match us, hl with | [_, _], _ => rfl
  obtain ⟨d_l_handed, F_l_handed⟩ := defA c (x := "_law_handed") (st := sHanded) 45
  have b_l_handed : Binds K d_l_handed ["_law_pool_here", "_law_bounds"] [] := F_l_handed.binds fun _ _ _ _ _ _ us hl => match us, hl with | [_, _], _ => rfl
  obtain ⟨d_l_table, F_l_table⟩ := defA c (x := "_law_table") (st := sTable) 46
  have b_l_table : Binds K d_l_table ["_law_pool_here", "_law_names_here", "_law_bounds"] [] := F_l_table.binds fun _ _ _ _ _ _ us hl => match us, hl with | [_, _, _], _ => rfl
  obtain ⟨d_l_same, F_l_same⟩ := defA c (x := "_law_same") (st := sSame) 47
  have b_l_same : Binds K d_l_same ["_law_found", "_law_due"] [] := F_l_same.binds fun _ _ _ _ _ _ us hl => match us, hl with | [_, _], _ => rfl
  obtain ⟨d_l_met, F_l_met⟩ := defA c (x := "_law_met") (st := sMet) 48
  have b_l_met : Binds K d_l_met ["_law_ask"] [] := F_l_met.binds fun _ _ _ _ _ _ us hl => match us, hl with | [_], _ => rfl
  obtain ⟨d_l_other, F_l_other⟩ := defA c (x := "_law_other") (st := sOther) 49
  have b_l_other : Binds K d_l_other ["_law_pool_here", "_law_names_here", "_law_bounds", "_law_ways_here"] [] := F_l_other.binds fun _ _ _ _ _ _ us hl => match us, hl with | [_, _, _, _], _ => rfl
  obtain ⟨d_l_lies, F_l_lies⟩ := defA c (x := "_law_lies") (st := sLies) 50
  have b_l_lies : Binds K d_l_lies ["_law_ways_here", "_law_bounds"] [] := F_l_lies.binds fun _ _ _ _ _ _ us hl => match us, hl with | [_, _], _ => rfl
  obtain ⟨d_law, F_law⟩ := defA c (x := "law") (st := sLaw) 51
  have b_law : Binds K d_law ["_law_script"] [] := F_law.binds fun _ _ _ _ _ _ us hl => match us, hl with | [_], _ => rfl
  have m_is_integer := gloA X G c (x := "is_integer") 0
  have m_is_list := gloA X G c (x := "is_list") 1
  have m_is_name := gloA X G c (x := "is_name") 2
  have m_bad_name_at := gloA X G c (x := "bad_name_at") 3
  have m_is_upper := gloA X G c (x := "is_upper") 4
  have m_code_of := gloA X G c (x := "code_of") 5
  have m_tighter_code := gloA X G c (x := "tighter_code") 6
  have m_code_sum := gloA X G c (x := "code_sum") 7
  have m_is_spot := gloA X G c (x := "is_spot") 8
  have m_is_spot_pair := gloA X G c (x := "is_spot_pair") 9
  have m_ordered_bounds := gloA X G c (x := "ordered_bounds") 10
  have m_check_alike_names := gloA X G c (x := "check_alike_names") 11
  have m_grid_of := gloA X G c (x := "grid_of") 12
  have m_shut := gloA X G c (x := "shut") 13
  have m_closed_grid := gloA X G c (x := "closed_grid") 14
  have m_ring := gloA X G c (x := "ring") 15
  have m_first_walk := gloA X G c (x := "first_walk") 16
  have m_longer_walk := gloA X G c (x := "longer_walk") 17
  have m_filled_grid := gloA X G c (x := "filled_grid") 18
  have m_spread := gloA X G c (x := "spread") 19
  have m_alike := gloA X G c (x := "alike") 20
  have m_within := gloA X G c (x := "within") 21
  have m_is_as_tight := gloA X G c (x := "is_as_tight") 22
  have m_Table := gloA X G c (x := "Table") 23
  have m_NoName := gloA X G c (x := "NoName") 24
  have m_SameName := gloA X G c (x := "SameName") 25
  have m_Empty := gloA X G c (x := "Empty") 26
  have m_UnlikeNames := gloA X G c (x := "UnlikeNames") 27
  have m_l_cell := gloA X G c (x := "_law_cell") 28
  have m_l_pool := gloA X G c (x := "_law_pool") 29
  have m_l_take := gloA X G c (x := "_law_take") 30
  have m_l_mixed := gloA X G c (x := "_law_mixed") 31
  have m_l_names := gloA X G c (x := "_law_names") 32
  have m_l_one := gloA X G c (x := "_law_one") 33
  have m_l_word := gloA X G c (x := "_law_word") 34
  have m_l_words := gloA X G c (x := "_law_words") 35
  have m_l_pairs := gloA X G c (x := "_law_pairs") 36
  have m_l_drawn := gloA X G c (x := "_law_drawn") 37
  have m_l_more := gloA X G c (x := "_law_more") 38
  have m_l_tight := gloA X G c (x := "_law_tight") 39
  have m_l_bars := gloA X G c (x := "_law_bars") 40
  have m_l_way := gloA X G c (x := "_law_way") 41
  have m_l_ways := gloA X G c (x := "_law_ways") 42
  have m_l_handed := gloA X G c (x := "_law_handed") 43
  have m_l_table := gloA X G c (x := "_law_table") 44
  have m_l_same := gloA X G c (x := "_law_same") 45
  have m_l_met := gloA X G c (x := "_law_met") 46
  have m_l_other := gloA X G c (x := "_law_other") 47
  have m_l_lies := gloA X G c (x := "_law_lies") 48
  have m_law := gloA X G c (x := "law") 49
  have f_len := freeA X G c (x := "len") 50
  have f_sum := freeA X G c (x := "sum") 51
  have f_int := freeA X G c (x := "int") 52
  have f_dict := freeA X G c (x := "dict") 53
  have f_list := freeA X G c (x := "list") 54
  have f_tuple := freeA X G c (x := "tuple") 55
  have f_isinstance := freeA X G c (x := "isinstance") 56
  have f_str := freeA X G c (x := "str") 57
  have f_bool := freeA X G c (x := "bool") 58
  have f_all := freeA X G c (x := "all") 59
  have f_any := freeA X G c (x := "any") 60
  have f_enumerate := freeA X G c (x := "enumerate") 61
  have f_range := freeA X G c (x := "range") 62
  have f_max := freeA X G c (x := "max") 63
  obtain ⟨t8, m_longest⟩ := He.int_ok X G (c.t.d.fact 64 (f := .int "LONGEST_NAME" 8))
  obtain ⟨t1, m_upto⟩ := He.int_ok X G (c.t.d.fact 65 (f := .int "UPTO_ZERO" 1))
  obtain ⟨tl, m_letters⟩ := He.str_ok X G (c.t.d.fact 66 (f := .str "LETTERS" letters))
  have T : TxtT K mg (He.ga K "Table") := ⟨He.cls_ok (c.t.d.fact 67 (f := .cls "Table")), He.noat_ok (c.t.d.fact 68 (f := .noat "Table" "_names")), He.noat_ok (c.t.d.fact 69 (f := .noat "Table" "_bounds"))⟩
  have h_names := He.meth_ok (c.t.d.fact 73 (f := .meth "Table" "names"))
  have h_bound := He.meth_ok (c.t.d.fact 74 (f := .meth "Table" "bound"))
  have h_bounds := He.meth_ok (c.t.d.fact 75 (f := .meth "Table" "bounds"))
  have MT := He.mkr_ok (c.t.d.fact 76 (f := .mkr "Table"))
  have noN : PySem.W.findIn K (.ref (He.ga K "NoName")) "name" = some none := He.noat_ok (c.t.d.fact 70 (f := .noat "NoName" "name"))
  have noS : PySem.W.findIn K (.ref (He.ga K "SameName")) "name" = some none := He.noat_ok (c.t.d.fact 71 (f := .noat "SameName" "name"))
  have noE : PySem.W.findIn K (.ref (He.ga K "Empty")) "ring" = some none := He.noat_ok (c.t.d.fact 72 (f := .noat "Empty" "ring"))
  have x0 := He.exm_ok (c.t.d.fact 77 (f := .exm "UnlikeNames" "UnlikeNames" true))
  have x1 := He.exm_ok (c.t.d.fact 78 (f := .exm "NoName" "UnlikeNames" false))
  have x2 := He.exm_ok (c.t.d.fact 79 (f := .exm "NoName" "NoName" true))
  have x3 := He.exm_ok (c.t.d.fact 80 (f := .exm "SameName" "UnlikeNames" false))
  have x4 := He.exm_ok (c.t.d.fact 81 (f := .exm "SameName" "NoName" false))
  have x5 := He.exm_ok (c.t.d.fact 82 (f := .exm "SameName" "SameName" true))
  have x6 := He.exm_ok (c.t.d.fact 83 (f := .exm "Empty" "UnlikeNames" false))
  have x7 := He.exm_ok (c.t.d.fact 84 (f := .exm "Empty" "NoName" false))
  have x8 := He.exm_ok (c.t.d.fact 85 (f := .exm "Empty" "SameName" false))
  have x9 := He.exm_ok (c.t.d.fact 86 (f := .exm "Empty" "Empty" true))
  obtain ⟨qN, q0⟩ := He.ba c.more
  obtain ⟨qS, q0⟩ := He.ba q0
  obtain ⟨qE, qU⟩ := He.ba q0
  obtain ⟨qN1, qN⟩ := He.ba qN
  obtain ⟨qN2, qN⟩ := He.ba qN
  obtain ⟨qN3, qN4⟩ := He.ba qN
  obtain ⟨qS1, qS⟩ := He.ba qS
  obtain ⟨qS2, qS⟩ := He.ba qS
  obtain ⟨qS3, qS4⟩ := He.ba qS
  obtain ⟨qE1, qE⟩ := He.ba qE
  obtain ⟨qE2, qE⟩ := He.ba qE
  obtain ⟨qE3, qE4⟩ := He.ba qE
  obtain ⟨qU1, qU⟩ := He.ba qU
  obtain ⟨qU2, qU⟩ := He.ba qU
  obtain ⟨qU3, qU4⟩ := He.ba qU
  have EN : ErrN K mg "NoName" "name" (He.ga K "NoName") (He.ma K (He.ga K "NoName") "__init__") := ⟨oexB_ok qN1, noN, He.eqO_ok qN3, of_decide_eq_true qN4, m_NoName⟩
  have ES : ErrN K mg "SameName" "name" (He.ga K "SameName") (He.ma K (He.ga K "SameName") "__init__") := ⟨oexB_ok qS1, noS, He.eqO_ok qS3, of_decide_eq_true qS4, m_SameName⟩
  have EE : ErrN K mg "Empty" "ring" (He.ga K "Empty") (He.ma K (He.ga K "Empty") "__init__") := ⟨oexB_ok qE1, noE, He.eqO_ok qE3, of_decide_eq_true qE4, m_Empty⟩
  have EU : ErrU K mg "UnlikeNames" (He.ga K "UnlikeNames") := ⟨m_UnlikeNames, qU1, qU2, of_decide_eq_true qU3, of_decide_eq_true qU4⟩
  have ER : Errs K (He.ga K "UnlikeNames") (He.ga K "NoName") (He.ga K "SameName") (He.ga K "Empty") := ⟨xfB_ok qN2, xfB_ok qS2, noN, noS, x0, x1, x2, x3, x4, x5, x6, x7, x8, x9⟩
  have efa := hfa.symm.trans m_law
  cases efa
  obtain ⟨oc, od, kV, doc, pm, an, cdv, ct, osl, efd, lk, hcg⟩ := F_law.ex
  obtain ⟨cc, ecc⟩ := He.codeIn_ref hcg
  have hcode : d_law.code = .ref cc := by rw [efd]; exact ecc
  have hcc : He.codeOf K defL = cc := He.codeOf_eq (p := defL) lk hcode
  refine ⟨d_law, [He.cT K defL], spLaw K (He.cT K defL).2, ?_, ?_, ?_, ?_, ?_, ?_⟩
  · intro p hp
    cases List.mem_singleton.mp hp
    exact c.empty _ List.mem_cons_self
  · intro p hp
    cases List.mem_singleton.mp hp
    exact c.out _ List.mem_cons_self
  · intro p hp
    cases List.mem_singleton.mp hp
    exact PySem.W.codeHd_of_K X (c.hd _ List.mem_cons_self)
  · intro s u
    rw [efd]
    exact .of_eq rfl
  · intro H a ns hl _ hT hS
    exact ⟨a, ns, rfl, hS, hl, fun p hp => by
      cases List.mem_singleton.mp hp
      exact LamX.TabS.nil (hT _ (List.mem_singleton.mpr rfl)), fun _ => rfl⟩
  intro base KX GX TB
  have TB1 := TB _ (List.mem_singleton.mpr rfl)
  have ec1 : (He.cT K defL).1 = cc := hcc
  rw [ec1] at TB1
  have G_int : FnOk P w K mg base CX0 1 _ _ _ _ := ok_is_integer F_is_integer f_isinstance f_int f_bool
  have G_list : FnOk P w K mg base CX0 1 _ _ _ _ := ok_is_list F_is_list f_isinstance f_list f_tuple
  have G_name : FnOk P w K mg base CX0 1 _ _ _ _ := ok_is_name F_is_name f_isinstance f_str f_len f_all m_longest m_letters
  have G_bna : FnOk P w K mg base CX0 2 _ _ _ _ := ok_bad_name_at F_bad_name_at G_list G_name b_is_list b_is_name F_is_list.kp F_is_name.kp m_is_list m_is_name f_enumerate
  have G_upp : FnOk P w K mg base CX0 2 _ _ _ _ := ok_is_upper F_is_upper G_list G_int b_is_list b_is_integer F_is_list.kp F_is_integer.kp m_is_list m_is_integer f_len
  have G_cod : FnOk P w K mg base CX0 1 _ _ _ _ := ok_code_of F_code_of
  have G_tig : FnOk P w K mg base CX0 1 _ _ _ _ := ok_tighter F_tighter_code
  have G_sum : FnOk P w K mg base CX0 1 _ _ _ _ := ok_code_sum F_code_sum
  have G_spo : FnOk P w K mg base CX0 1 _ _ _ _ := ok_is_spot F_is_spot f_isinstance f_str
  have G_spo2 : FnOk P w K mg base CX0 1 _ _ _ _ := ok_is_spot2 F_is_spot f_isinstance f_str
  have G_spp : FnOk P w K mg base CX0 2 _ _ _ _ := ok_is_spot_pair F_is_spot_pair G_spo b_is_spot F_is_spot.kp m_is_spot f_isinstance f_tuple f_len
  have G_ord : FnOk P w K mg base CX0 3 _ _ _ _ := ok_ordered F_ordered_bounds G_spp G_upp b_is_spot_pair b_is_upper F_is_spot_pair.kp F_is_upper.kp m_is_spot_pair m_is_upper f_isinstance f_dict f_tuple
  have G_ini : FnOk P w K mg base CX0 4 _ _ _ _ := ok_tinit F_T__init T G_bna G_ord b_bad_name_at b_ordered_bounds F_bad_name_at.kp F_ordered_bounds.kp m_bad_name_at m_ordered_bounds f_list
  have G_tna : FnOk P w K mg base CX0 1 _ _ _ _ := ok_tnames F_Tnames T f_list
  have G_tbo : FnOk P w K mg base CX0 1 _ _ _ _ := ok_tbounds F_Tbounds T
  have G_gri : FnOk P w K mg base CX0 2 _ _ _ _ := ok_grid_of F_grid_of T G_cod b_code_of F_code_of.kp m_code_of G_tna b_Tnames h_names G_tbo b_Tbounds h_bounds f_len f_range m_upto
  have G_shu : FnOk P w K mg base CX0 2 _ _ _ _ := ok_shut F_shut G_tig G_sum b_tighter_code b_code_sum F_tighter_code.kp F_code_sum.kp m_tighter_code m_code_sum f_len f_range f_any m_upto
  have G_clo : FnOk P w K mg base CX0 3 _ _ _ _ := ok_closed_grid F_closed_grid G_shu G_gri b_shut b_grid_of F_shut.kp F_grid_of.kp m_shut m_grid_of
  have G_nin : FnOk P w K mg base CX0 1 _ _ _ _ := ok_nninit F_N__init EN.T noN
  have G_sin : FnOk P w K mg base CX0 1 _ _ _ _ := ok_sninit F_S__init ES.T noS
  have G_emi : FnOk P w K mg base CX0 1 _ _ _ _ := ok_eminit F_E__init EE.T noE
  have G_tbd : FnOk P w K mg base (L2.CX P w) 3 _ _ _ _ := ok_tbound F_Tbound T EN ES G_spo2 b_is_spot F_is_spot.kp m_is_spot G_nin b_N__init G_sin b_S__init
  have G_ali : FnOk P w K mg base (L2.CX P w) 2 _ _ _ _ := ok_alikeN F_check_alike_names T EU G_tna b_Tnames h_names
  have G_ast : FnOk P w K mg base CX0 1 _ _ _ _ := ok_as_tight F_is_as_tight
  have G_wit : FnOk P w K mg base (L2.CX P w) 4 _ _ _ _ := ok_within F_within ⟨G_ali, b_check_alike_names, F_check_alike_names.kp, m_check_alike_names⟩ ⟨G_clo, b_closed_grid, F_closed_grid.kp, m_closed_grid⟩ ⟨G_gri, b_grid_of, F_grid_of.kp, m_grid_of⟩ ⟨G_ast, b_is_as_tight, F_is_as_tight.kp, m_is_as_tight⟩ f_len f_range f_all
  have G_alk : FnOk P w K mg base (L2.CX P w) 5 _ _ _ _ := ok_alike F_alike ⟨G_wit, b_within, F_within.kp, m_within⟩
  have G_fir : FnOk P w K mg base CX0 1 _ _ _ _ := ok_first F_first_walk
  have G_lon : FnOk P w K mg base CX0 2 _ _ _ _ := ok_longer F_longer_walk ⟨G_sum, b_code_sum, F_code_sum.kp, m_code_sum⟩ f_enumerate
  have G_rin : FnOk P w K mg base CX0 3 _ _ _ _ := ok_ring F_ring T G_tna b_Tnames h_names ⟨G_gri, b_grid_of, F_grid_of.kp, m_grid_of⟩ ⟨G_fir, b_first_walk, F_first_walk.kp, m_first_walk⟩ ⟨G_lon, b_longer_walk, F_longer_walk.kp, m_longer_walk⟩ f_len f_range f_tuple m_upto
  have G_fil : FnOk P w K mg base (L2.CX P w) 4 _ _ _ _ := ok_filled F_filled_grid EE ⟨G_clo, b_closed_grid, F_closed_grid.kp, m_closed_grid⟩ ⟨G_rin, b_ring, F_ring.kp, m_ring⟩ G_emi b_E__init
  have G_spr : FnOk P w K mg base (L2.CX P w) 5 _ _ _ _ := ok_spread F_spread T G_tbd b_Tbound h_bound ⟨G_fil, b_filled_grid, F_filled_grid.kp, m_filled_grid⟩
  have L_cell : FnOk P w K mg base CX0 1 _ _ _ _ := ok_cell F_l_cell f_len f_sum
  have L_pool : FnOk P w K mg base CX0 1 _ _ _ _ := ok_pool F_l_pool f_int
  have L_take : FnOk P w K mg base CX0 1 _ _ _ _ := ok_take F_l_take f_int
  have L_mixed : FnOk P w K mg base CX0 2 _ _ _ _ := ok_mixed F_l_mixed L_take b_l_take F_l_take.kp m_l_take f_len f_range f_list
  have L_names : FnOk P w K mg base CX0 3 _ _ _ _ := ok_names F_l_names L_mixed b_l_mixed F_l_mixed.kp m_l_mixed
  have L_one : FnOk P w K mg base CX0 2 _ _ _ _ := ok_one F_l_one L_take b_l_take F_l_take.kp m_l_take f_len
  have L_word : FnOk P w K mg base CX0 1 _ _ _ _ := ok_word F_l_word
  have L_words : FnOk P w K mg base CX0 2 _ _ _ _ := ok_words F_l_words L_word b_l_word F_l_word.kp m_l_word f_dict
  have L_pairs : FnOk P w K mg base CX0 1 _ _ _ _ := ok_pairs F_l_pairs
  have L_drawn : FnOk P w K mg base CX0 3 _ _ _ _ := ok_drawn F_l_drawn L_take b_l_take F_l_take.kp m_l_take L_mixed b_l_mixed F_l_mixed.kp m_l_mixed L_pairs b_l_pairs F_l_pairs.kp m_l_pairs L_one b_l_one F_l_one.kp m_l_one f_dict f_list f_int
  have L_more : FnOk P w K mg base CX0 1 _ _ _ _ := ok_more F_l_more f_max
  have L_tight : FnOk P w K mg base CX0 1 _ _ _ _ := ok_tight F_l_tight
  have L_bars : FnOk P w K mg base CX0 1 _ _ _ _ := ok_bars F_l_bars
  have L_way : FnOk P w K mg base CX0 7 _ _ _ _ := ok_way F_l_way b_l_way F_l_way.kp m_l_way L_more b_l_more F_l_more.kp m_l_more L_tight b_l_tight F_l_tight.kp m_l_tight 6
  have L_ways : FnOk P w K mg base CX0 8 _ _ _ _ := ok_ways F_l_ways L_way b_l_way F_l_way.kp m_l_way L_more b_l_more F_l_more.kp m_l_more L_bars b_l_bars F_l_bars.kp m_l_bars
  have L_handed : FnOk P w K mg base CX0 3 _ _ _ _ := ok_handed F_l_handed L_mixed b_l_mixed F_l_mixed.kp m_l_mixed L_word b_l_word F_l_word.kp m_l_word L_one b_l_one F_l_one.kp m_l_one f_list
  have L_table : FnOk P w K mg base CX0 6 _ _ _ _ := ok_table F_l_table L_one b_l_one F_l_one.kp m_l_one L_handed b_l_handed F_l_handed.kp m_l_handed G_ini MT b_T__init m_Table f_list f_tuple
  have W_ways : Got P w K mg base CX0 8 _ _ _ _ _ := ⟨Rw.FnOk.way L_ways ways3, b_l_ways, F_l_ways.kp, m_l_ways⟩
  have L_same : FnOk P w K mg base CX0 1 _ _ _ _ := ok_same F_l_same
  have L_lies : FnOk P w K mg base CX0 2 _ _ _ _ := ok_lies F_l_lies ⟨L_tight, b_l_tight, F_l_tight.kp, m_l_tight⟩ f_all
  have L_other : FnOk P w K mg base CX0 4 _ _ _ _ := ok_other F_l_other ⟨L_take, b_l_take, F_l_take.kp, m_l_take⟩ ⟨L_drawn, b_l_drawn, F_l_drawn.kp, m_l_drawn⟩ ⟨L_mixed, b_l_mixed, F_l_mixed.kp, m_l_mixed⟩ ⟨L_one, b_l_one, F_l_one.kp, m_l_one⟩ f_list f_dict
  have gWi : Got P w K mg base (L2.CX P w) 4 _ _ _ _ _ := ⟨G_wit, b_within, F_within.kp, m_within⟩
  have gAl : Got P w K mg base (L2.CX P w) 5 _ _ _ _ _ := ⟨G_alk, b_alike, F_alike.kp, m_alike⟩
  have gSp : Got P w K mg base (L2.CX P w) 5 _ _ _ _ _ := ⟨G_spr, b_spread, F_spread.kp, m_spread⟩
  exact ok_law F_law hcode ⟨L_cell, b_l_cell, F_l_cell.kp, m_l_cell⟩ ⟨L_pool, b_l_pool, F_l_pool.kp, m_l_pool⟩ ⟨L_names, b_l_names, F_l_names.kp, m_l_names⟩ ⟨L_one, b_l_one, F_l_one.kp, m_l_one⟩ ⟨L_drawn, b_l_drawn, F_l_drawn.kp, m_l_drawn⟩ ⟨L_table, b_l_table, F_l_table.kp, m_l_table⟩ W_ways ⟨L_other, b_l_other, F_l_other.kp, m_l_other⟩ ⟨L_same, b_l_same, F_l_same.kp, m_l_same⟩ gWi gAl ⟨L_lies, b_l_lies, F_l_lies.kp, m_l_lies⟩ G_ini MT b_T__init m_Table F_l_met b_l_met m_l_met TB1 m_UnlikeNames m_NoName m_SameName m_Empty ER gSp f_len f_range
end
end Rw
set_option Elab.async false
set_option linter.all false
set_option maxRecDepth 100000
set_option maxHeartbeats 0
open PySem PySem.W PySem.Calls PyProof.Rows
theorem PySem.Challenge.cw_rowsintime_k05_whole_within_and_spread_holds : PySem.Challenge.rw_rowsintime_k05_whole_within_and_spread.Holds := by
  w_on; o_law
  refine HandSHeadRun.head_any (r := OpenLaw.row PySem.Challenge.rw_rowsintime_k05_whole_within_and_spread) (q := view (OpenLaw.row PySem.Challenge.rw_rowsintime_k05_whole_within_and_spread).prog [65]) (H := Rw.hkA) (ob := Rw.obA) (M := 20000) (loose := Rw.names0)
    (d := HandSHeadRun.topDef (OpenLaw.row PySem.Challenge.rw_rowsintime_k05_whole_within_and_spread).prog 65) (kwd := []) Rw.obA_eq
    (by kernel_rfl) (fun s => by kernel_rfl) Rw.run0 (by kernel_rfl) (by kernel_rfl) (by kernel_rfl) (by rfl) (by first | assumption | decide +kernel) (by decide +kernel) ⟨rfl, rfl, rfl, rfl, rfl, by decide +kernel⟩ ?hw ?hc
  case hw => w_witness2
  case hc =>
    refine LamX.walk_ofTsE (l := PySem.Challenge.rw_rowsintime_k05_whole_within_and_spread) (n := 63) (k := 13) (x := "_law_script") (CX := fun _ => L2.CX0) rfl (by decide) (by kernel_rfl) ⟨rfl, by decide, by decide⟩ ?F (fun _ _ _ _ _ z => z)
    intro w mg fa h Y G hmg0
    obtain ⟨K, KX, c⟩ := Y
    have hmg : mg ("law" : PySem.Str) = some (.ref fa) := by
      have e : (HandSHeadRun.topDef (OpenLaw.row PySem.Challenge.rw_rowsintime_k05_whole_within_and_spread).prog 65).name = ("law" : PySem.Str) := by kernel_rfl
      rw [← e]
      exact hmg0
    exact ⟨K, KX, Rw.facts (P := (PySem.Challenge.rw_rowsintime_k05_whole_within_and_spread).prog) (w := w) KX G hmg c⟩
