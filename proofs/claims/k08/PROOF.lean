import PyProof.Rows.All
import Wide.All
import OpenK.AllK
import Wide.FinOn
import HandS.ForMost
import HandS.Wide
import HandS.Walk
import HandS.Flow
import HandS.Conv
import HandS.IsInst
import HandS.DictComp
import HandS.TupLen
import HandS.Lambda
import HandS.ExcInit
import HandS.Exc
import HandS.WordsExc
import HandS.Small
import HandS.OwnEq
import HandS.HeadHook2
import HandS.ExcField
import HandS.TryMany
import KE.KDictPairs
import KE.KDictCopyH
import KE.KEqDict
import PyProof.DictCompW
import PyProof.ListNew
import PyProof.WalksEnum
import HandS.ListItems
import KE.GoesEnum
import KE.LtData
import PyProof.InstNe
import HandS.TryOnly
import HandS.Head0
import HandS.Head1
import HandS.Head2
import HandS.HeadEnd
import HandS.HeadHook3
import HandS.HeadHook4
import HandS.HeadWalk
import PySem.Challenge.RW_rowsintime_k08_whole_begun_and_without
set_option Elab.async false
set_option linter.all false
set_option maxRecDepth 100000
set_option maxHeartbeats 4000000
namespace Rw
open PySem L2
def top (i : Nat) : Stmt := PySem.Challenge.pw_rowsintime_k08_whole_begun_and_without.main.body.getD i (.Pass ⟨0, 0, 0, 0⟩)
abbrev sCell : Stmt := top 37
abbrev sPool : Stmt := top 38
abbrev sTake : Stmt := top 39
abbrev sMixed : Stmt := top 40
abbrev sOne : Stmt := top 42
/-! ### heaps: what stays -/
theorem same_new {H : Hp} {p : Addr} (h : H p = none) (o : HO) : Same H (upd H p o) := fun b u q => by rw [upd_ne (ne_of_none q h)]; exact q
/-- all but what stands at p is as it was -/
def But (p : Addr) (H H' : Hp) : Prop := ∀ b o, H b = some o → b ≠ p → H' b = some o
theorem But.refl {p : Addr} {H : Hp} : But p H H := fun _ _ h _ => h
theorem But.trans {p : Addr} {H H1 H2 : Hp} (a : But p H H1) (b : But p H1 H2) : But p H H2 := fun c o h n => b c o (a c o h n) n
theorem But.of {p : Addr} {H H' : Hp} (a : Same H H') : But p H H' := fun b o h _ => a b o h
theorem But.new {p q : Addr} {H H' : Hp} {o : HO} (a : But p H H') (h : H' q = none) : But p H (upd H' q o) := fun b u e n => by
  have e1 := a b u e n
  rw [upd_ne (ne_of_none e1 h)]
  exact e1
theorem But.put {p : Addr} {H H' : Hp} {o : HO} (a : But p H H') : But p H (upd H' p o) := fun b u e n => by
  rw [upd_ne n]
  exact a b u e n
/-- an object that H does not know may change -/
theorem But.mut {p q : Addr} {H H' : Hp} {o : HO} (a : But p H H') (h : H q = none) : But p H (upd H' q o) := fun b u e n => by
  rw [upd_ne (ne_of_none e h)]
  exact a b u e n
theorem But.none {p q : Addr} {H H' : Hp} (a : But p H H') (h : H' q = none) (n : q ≠ p) : H q = none := by
  cases e : H q with
  | none => rfl
  | some o => rw [a q o e n] at h; cases h
theorem But.sqL {p a : Addr} {K : PySem.W.Frag} {H H' : Hp} {xs : List V} (b : But p H H') (h : SqL K H a xs) (n : a ≠ p) : SqL K H' a xs := by
  rcases h with (h | ⟨o, h⟩) | h
  · exact .inl (.inl (b _ _ h n))
  · exact .inl (.inr ⟨o, b _ _ h n⟩)
  · exact .inr h
theorem But.sqT {p a : Addr} {K : PySem.W.Frag} {H H' : Hp} {xs : List V} (b : But p H H') (h : SqT K H a xs) (n : a ≠ p) : SqT K H' a xs := by
  rcases h with (h | ⟨o, h⟩) | h
  · exact .inl (.inl (b _ _ h n))
  · exact .inl (.inr ⟨o, b _ _ h n⟩)
  · exact .inr h
/-! ### the pool of draws: a list of three ints -/
def Pool (H : Hp) (p : Addr) (n : Nat) : Prop := ∃ a b c : Int, H p = some (.lst [.int a, .int b, .int c]) ∧ 0 ≤ b ∧ b < 1000000007 ∧ 0 ≤ c ∧ c ≤ (n : Int)
theorem Pool.some {H : Hp} {p : Addr} {n : Nat} (h : Pool H p n) : ∃ xs, H p = some (.lst xs) := by
  obtain ⟨a, b, c, e, _⟩ := h
  exact ⟨_, e⟩
theorem Pool.mono {H : Hp} {p : Addr} {n m : Nat} (h : Pool H p n) (l : n ≤ m) : Pool H p m := by
  obtain ⟨a, b, c, e, h1, h2, h3, h4⟩ := h
  exact ⟨a, b, c, e, h1, h2, h3, by omega⟩
theorem Pool.new {H : Hp} {p q : Addr} {n : Nat} {o : HO} (h : Pool H p n) (hq : H q = Option.none) : Pool (upd H q o) p n := by
  obtain ⟨a, b, c, e, h1⟩ := h
  exact ⟨a, b, c, by rw [upd_ne (ne_of_none e hq)]; exact e, h1⟩
theorem Pool.ne {H : Hp} {p q : Addr} {n : Nat} {o : HO} (h : Pool H p n) (hq : q ≠ p) : Pool (upd H q o) p n := by
  obtain ⟨a, b, c, e, h1⟩ := h
  exact ⟨a, b, c, by rw [upd_ne hq.symm]; exact e, h1⟩
theorem Pool.apart {H : Hp} {p q : Addr} {n : Nat} (h : Pool H p n) (hq : H q = Option.none) : q ≠ p := by
  obtain ⟨xs, e⟩ := h.some
  exact (ne_of_none e hq).symm
section
variable {P : Program} {w : World} {K : PySem.W.Frag} {mg : Str → Option Value} {base : Heap}
/-! ### cell -/
def spCell (K : PySem.W.Frag) : Sp := fun vs H Q _ => ∃ (a : Addr) (ns : List Int) (k : Nat), vs = [.ref a, .int k] ∧ SqL K H a (ns.map V.int) ∧ ns.length ≤ 63 ∧
  ∀ (z : Int) H', Same H H' → Q (.int z) H'
theorem scCell : FnScope ["_law_script", "_law_k"] ["_law_script", "_law_k"] (defScope sCell) := ⟨rfl, rfl, rfl, by decide +kernel, rfl, by decide +kernel, by decide +kernel⟩
theorem cut_map (ns : List Int) (lo hi : Option Int) : cutV (ns.map V.int) lo hi = ((ns.drop (HT.sIx ns.length 0 lo)).take (HT.sIx ns.length ns.length hi - HT.sIx ns.length 0 lo)).map V.int := by
  unfold cutV
  rw [List.length_map, List.map_take, List.map_drop]
theorem ok_cell {f : Addr} {fd : FuncData} (F : Fun K "_law_cell" "_law_cell" sCell f fd) (ml : mg "len" = none) (ms : mg "sum" = none) : FnOk P w K mg base CX0 1 f fd ["_law_script", "_law_k"] (spCell K) := by
  refine F.ok scCell (fun vs H Q E h => ?_) (fun cdv A outer s H vs Q E hr h => ?_)
  · obtain ⟨a, ns, k, rfl, _⟩ := h
    rfl
  obtain ⟨a, ns, k, rfl, hS, hlen, q⟩ := h
  refine ⟨_, pss_cons (ps_if (pt_cmpR op_lt (pv 1) (pe_callB call_len_seq rfl ml PySem.boot_len (pa_cons (pv 0) pa_nil)) (nomark _))
      (pss_one (ps_ret (pe_ix ix_list (pv 0) (pv 1) (fun _ _ => rfl)))) pss_nil)
    (pss_one (ps_ret (pe_op op_mod (pe_callB (cr_sum rfl) rfl ms (by decide +kernel) (pa_cons (pe_slice sl_list (pv 0) po_none (po_some pe_int)) pa_nil)) pe_int))), ?_⟩
  refine ⟨_, rfl, _, rfl, a, _, rfl, .inl hS, _, _, rfl, rfl, _, rfl, ?_⟩
  refine ite2 (fun c => ?_) (fun c => ?_)
  · have c' : (k : Int) < (((ns.map V.int).length : Nat) : Int) := of_decide_eq_true c
    rw [List.length_map] at c'
    have hk : k < ns.length := by omega
    refine ⟨_, rfl, _, rfl, a, _, _, _, rfl, rfl, hS, atI_nat (v := .int ns[k]) (by rw [List.getElem?_map, List.getElem?_eq_getElem hk] <;> rfl), ?_⟩
    exact q _ H (Same.refl H)
  · refine ⟨_, rfl, _, rfl, a, _, rfl, hS, fun p hp => ?_⟩
    refine ⟨p, _, rfl, .inl (.inl (by rw [upd_same, cut_map])), _, _, rfl, rfl, (by show (0 : Int) < 1000003; decide), ?_⟩
    exact q _ _ (same_new hp _)
/-! ### pool -/
def spPool : Sp := fun vs H Q _ => ∃ (z : Int), vs = [.int z] ∧ ∀ p H', H p = none → Same H H' → Pool H' p 0 → Q (.ref p) H'
theorem scPool : FnScope ["_law_cell_here", "_law_folded"] ["_law_cell_here"] (defScope sPool) := ⟨rfl, rfl, rfl, by decide +kernel, rfl, by decide +kernel, by decide +kernel⟩
theorem pool_new {H : Hp} {p : Addr} (hp : H p = none) {a b : Int} : Pool (upd H p (.lst [.int a, .int (b % 1000000007), .int 0])) p 0 :=
  ⟨a, _, 0, upd_same, by omega, by omega, by omega, by omega⟩
theorem ok_pool {f : Addr} {fd : FuncData} (F : Fun K "_law_pool" "_law_pool" sPool f fd) (mi : mg "int" = none) : FnOk P w K mg base CX0 1 f fd ["_law_cell_here"] spPool := by
  refine F.ok scPool (fun vs H Q E h => ?_) (fun cdv A outer s H vs Q E hr h => ?_)
  · obtain ⟨z, rfl, _⟩ := h
    rfl
  obtain ⟨z, rfl, q⟩ := h
  refine ⟨_, pss_cons (ps_set (i := 1) scPool.nd rfl (Or.inl rfl) (pe_op op_mul pe_int (pv 0)))
    (pss_cons (ps_if (pt_cmpR op_lt (pv 0) pe_int (nomark _)) (pss_one (ps_set (i := 1) scPool.nd rfl (Or.inl rfl) (pe_op op_sub (pe_op op_sub pe_int (pe_op op_mul pe_int (pv 0))) pe_int))) pss_nil)
    (pss_cons (ps_if (pt_cmpR op_ge (pv 1) (pe_op op_pow pe_int pe_int) (nomark _))
      (pss_one (ps_ret (pe_lst (pa_cons (pe_op op_fdivN (pv 1) pe_int) (pa_cons (pe_op op_mod (pe_callTy call_int1 rfl mi PyProof.Rows.boot_int (pa_cons (pv 1) pa_nil)) pe_int) (pa_cons pe_int pa_nil)))))) pss_nil)
    (pss_one (ps_ret (pe_lst (pa_cons pe_int (pa_cons (pe_op op_mod (pe_callTy call_int1 rfl mi PyProof.Rows.boot_int (pa_cons (pv 1) pa_nil)) pe_int) (pa_cons pe_int pa_nil)))))))), ?_⟩
  have last : ∀ y : Int, tSeq (tIfS (tTest (tOp (rI0 fun i j => .bl (decide (i ≥ j))) (tVar 1) (tOp (rI CPow fun i j => .int (i ^ j.toNat)) (tC (.int 10)) (tC (.int 18)))))
      (tRet (tLst (tCons (tOp (rI CDivN fun i j => .int (i.fdiv j)) (tVar 1) (tC (.int 2))) (tCons (tOp (rI (fun _ j => 0 < j) fun i j => .int (i % j)) (tCB (fun xs H Q => (∃ i, xs = [.int i] ∧ Q (.int i) H) ∨ ∃ k, xs = [.bl k] ∧ Q (.int (if k then 1 else 0)) H) (tCons (tVar 1) tNil)) (tC (.int 1000000007))) (tCons (tC (.int 0)) tNil))))) tNext)
      (tRet (tLst (tCons (tC (.int 0)) (tCons (tOp (rI (fun _ j => 0 < j) fun i j => .int (i % j)) (tCB (fun xs H Q => (∃ i, xs = [.int i] ∧ Q (.int i) H) ∨ ∃ k, xs = [.bl k] ∧ Q (.int (if k then 1 else 0)) H) (tCons (tVar 1) tNil)) (tC (.int 1000000007))) (tCons (tC (.int 0)) tNil)))))
      { nx := fun _ H' => Q .non H', rt := Q } [some (.int z), some (.int y)] H := fun y => by
    refine ⟨_, rfl, _, _, rfl, rfl, ⟨by decide, by decide, by decide⟩, _, _, rfl, rfl, _, rfl, ?_⟩
    refine ite2 (fun c => ?_) (fun c => ?_)
    · refine ⟨_, rfl, _, _, rfl, rfl, ⟨by decide, by decide⟩, _, rfl, .inl ⟨_, rfl, _, _, rfl, rfl, (by show (0 : Int) < 1000000007; decide), (by show 3 ≤ sizeLine; decide), fun p hp => ?_⟩⟩
      exact q p _ hp (same_new hp _) (pool_new hp)
    · refine ⟨_, rfl, .inl ⟨_, rfl, _, _, rfl, rfl, (by show (0 : Int) < 1000000007; decide), (by show 3 ≤ sizeLine; decide), fun p hp => ?_⟩⟩
      exact q p _ hp (same_new hp _) (pool_new hp)
  refine ⟨_, rfl, _, _, rfl, rfl, .inl (by decide), ?_⟩
  refine ⟨_, rfl, _, _, rfl, rfl, _, rfl, ?_⟩
  refine ite2 (fun c => ?_) (fun c => ?_)
  · refine ⟨_, rfl, _, _, rfl, rfl, .inl (by decide), _, _, rfl, rfl, _, _, rfl, rfl, ?_⟩
    exact last _
  · exact last _
end
end Rw
set_option Elab.async false
set_option linter.all false
set_option maxRecDepth 100000
set_option maxHeartbeats 4000000
namespace Rw
open PySem L2
section
variable {P : Program} {w : World} {K : PySem.W.Frag} {mg : Str → Option Value} {base : Heap}
/-! ### take -/
/-- a draw below m; the pool has one more draw behind it -/
def spTake : Sp := fun vs H Q _ => ∃ (p : Addr) (m : Int) (n : Nat), vs = [.ref p, .int m] ∧ Pool H p n ∧ n ≤ 1000000000 ∧ 0 < m ∧ m < 1073741824 ∧
  ∀ (d : Int) (o : HO), 0 ≤ d → d < m → Pool (upd H p o) p (n + 1) → Q (.int d) (upd H p o)
theorem scTake : FnScope ["_law_pool_here", "_law_many", "_law_draw", "_law_mixed_here"] ["_law_pool_here", "_law_many"] (defScope sTake) := ⟨rfl, rfl, rfl, by decide +kernel, rfl, by decide +kernel, by decide +kernel⟩
theorem ok_take {f : Addr} {fd : FuncData} (F : Fun K "_law_take" "_law_take" sTake f fd) (mi : mg "int" = none) : FnOk P w K mg base CX0 1 f fd ["_law_pool_here", "_law_many"] spTake := by
  refine F.ok scTake (fun vs H Q E h => ?_) (fun cdv A outer s H vs Q E hr h => ?_)
  · obtain ⟨p, m, n, rfl, _⟩ := h
    rfl
  obtain ⟨p, m, n, rfl, ⟨a, b, c, hp, hb0, hb1, hc0, hc1⟩, hn, hm0, hm1, q⟩ := h
  refine ⟨_, pss_cons (ps_if (pt_cmpR op_gt (pe_ix ix_list (pv 0) pe_int (fun _ _ => rfl)) pe_int (nomark _))
      (pss_cons (ps_set (i := 2) scTake.nd rfl (Or.inl rfl) (pe_op op_mod (pe_callTy call_int1 rfl mi PyProof.Rows.boot_int (pa_cons (pe_ix ix_list (pv 0) pe_int (fun _ _ => rfl)) pa_nil)) (pv 1)))
      (pss_cons (ps_asg (pe_op op_fdivN (pe_ix ix_list (pv 0) pe_int (fun _ _ => rfl)) (pv 1)) (pg_sub (pv 0) pe_int set_list))
      (pss_one (ps_ret (pv 2))))) pss_nil)
    (pss_cons (ps_asg (pe_op op_add (pe_ix ix_list (pv 0) pe_int (fun _ _ => rfl)) pe_int) (pg_sub (pv 0) pe_int set_list))
    (pss_cons (ps_set (i := 3) scTake.nd rfl (Or.inl rfl) (pe_op op_mod (pe_callTy call_int1 rfl mi PyProof.Rows.boot_int (pa_cons
        (pe_op op_pow (pe_op op_add (pe_op op_add (pe_ix ix_list (pv 0) pe_int (fun _ _ => rfl)) (pe_op op_mul pe_int (pe_ix ix_list (pv 0) pe_int (fun _ _ => rfl)))) pe_int) pe_int) pa_nil)) pe_int))
    (pss_one (ps_ret (pe_op op_mod (pe_op op_mod (pe_callTy call_int1 rfl mi PyProof.Rows.boot_int (pa_cons
        (pe_op op_mul (pe_op op_add (pv 3) (pe_ix ix_list (pv 0) pe_int (fun _ _ => rfl))) pe_int) pa_nil)) pe_int) (pv 1)))))), ?_⟩
  have at0 : ∀ x y z : V, atI [x, y, z] 0 = some x := fun _ _ _ => rfl
  have at1 : ∀ x y z : V, atI [x, y, z] 1 = some y := fun _ _ _ => rfl
  have at2 : ∀ x y z : V, atI [x, y, z] 2 = some z := fun _ _ _ => rfl
  refine ⟨_, rfl, p, _, 0, _, rfl, rfl, SqL.of hp, at0 _ _ _, _, _, rfl, rfl, _, rfl, ?_⟩
  refine ite2 (fun h => ?_) (fun h => ?_)
  · refine ⟨_, rfl, p, _, 0, _, rfl, rfl, SqL.of hp, at0 _ _ _, .inl ⟨_, rfl, _, rfl, _, _, rfl, rfl, hm0, ?_⟩⟩
    refine ⟨_, rfl, p, _, 0, _, rfl, rfl, SqL.of hp, at0 _ _ _, _, rfl, _, _, rfl, rfl, ⟨by omega, by omega⟩, _, rfl, p, _, _, 0, rfl, rfl, hp, rfl, ?_⟩
    refine ⟨_, rfl, ?_⟩
    exact q _ _ (Int.emod_nonneg _ (by omega)) (Int.emod_lt_of_pos _ hm0) ⟨_, b, c, upd_same, hb0, hb1, hc0, by omega⟩
  · refine ⟨_, rfl, p, _, 2, _, rfl, rfl, SqL.of hp, at2 _ _ _, _, _, rfl, rfl, _, rfl, p, _, _, 2, rfl, rfl, hp, rfl, ?_⟩
    have hp2 : (upd H p (.lst ([V.int a, .int b, .int c].set 2 (.int (c + 1))))) p = some (.lst [.int a, .int b, .int (c + 1)]) := upd_same
    refine ⟨_, rfl, p, _, 1, _, rfl, rfl, SqL.of hp2, at1 _ _ _, _, rfl, p, _, 2, _, rfl, rfl, SqL.of hp2, at2 _ _ _, _, _, rfl, rfl, .inl (by decide), _, _, rfl, rfl, _, _, rfl, rfl, _, _, rfl, rfl,
      ⟨by decide, by decide, ?_⟩, .inl ⟨_, rfl, _, _, rfl, rfl, (by show (0 : Int) < 2147483647; decide), ?_⟩⟩
    · show (b + 7919 * (c + 1) + 104729).natAbs < 2 ^ 64
      omega
    refine ⟨_, rfl, _, rfl, p, _, 2, _, rfl, rfl, SqL.of hp2, at2 _ _ _, _, _, rfl, rfl, _, _, rfl, rfl, .inr (by decide), .inl ⟨_, rfl, _, _, rfl, rfl, (by show (0 : Int) < 2147483629; decide), _, rfl, _, _, rfl, rfl, hm0, ?_⟩⟩
    exact q _ _ (Int.emod_nonneg _ (by omega)) (Int.emod_lt_of_pos _ hm0) ⟨a, b, c + 1, upd_same, hb0, hb1, by omega, by omega⟩
end
end Rw
set_option Elab.async false
set_option linter.all false
set_option maxRecDepth 100000
set_option maxHeartbeats 4000000
namespace Rw
open PySem L2
theorem cut_to (xs : List V) (d : Nat) (h : d ≤ xs.length) : cutV xs none (some (d : Int)) = xs.take d := by
  unfold cutV
  rw [HT.sIx_none, HT.sIx_nat, List.drop_zero, Nat.min_eq_left h, Nat.sub_zero]
theorem cut_from (xs : List V) (d : Nat) (h : d ≤ xs.length) : cutV xs (some (d : Int)) none = xs.drop d := by
  unfold cutV
  rw [HT.sIx_none, HT.sIx_nat, Nat.min_eq_left h, List.take_of_length_le (by rw [List.length_drop]; omega)]
theorem small1000' {n : Nat} (h : n ≤ 100000) : n < sizeLine := Nat.lt_of_le_of_lt h (by decide)
section
variable {P : Program} {w : World} {K : PySem.W.Frag} {mg : Str → Option Value} {base : Heap}
/-! ### mixed: the things in some order -/
def Seq (K : PySem.W.Frag) (H : Hp) (a : Addr) (xs : List V) : Prop := SqL K H a xs ∨ SqT K H a xs
theorem Seq.but {p a : Addr} {H H' : Hp} {xs : List V} (h : Seq K H a xs) (b : But p H H') (n : a ≠ p) : Seq K H' a xs :=
  h.elim (fun z => .inl (b.sqL z n)) (fun z => .inr (b.sqT z n))
def spMixed (K : PySem.W.Frag) : Sp := fun vs H Q _ => ∃ (p l : Addr) (xs : List V) (n : Nat), vs = [.ref p, .ref l] ∧ Pool H p n ∧ n + xs.length ≤ 1000000000 ∧ Seq K H l xs ∧ l ≠ p ∧ xs.length ≤ 10000 ∧
  ∀ (ys : List V) (r : Addr) (H' : Hp), ys.Perm xs → H r = none → But p H H' → Pool H' p (n + xs.length) → H' r = some (.lst ys) → Q (.ref r) H'
theorem scMixed : FnScope ["_law_pool_here", "_law_things", "_law_left", "_law_found", "_law_k", "_law_at"] ["_law_pool_here", "_law_things"] (defScope sMixed) := ⟨rfl, rfl, rfl, by decide +kernel, rfl, by decide +kernel, by decide +kernel⟩
theorem ok_mixed {f ft : Addr} {fd fdt : FuncData} (F : Fun K "_law_mixed" "_law_mixed" sMixed f fd) (G : FnOk P w K mg base CX0 1 ft fdt ["_law_pool_here", "_law_many"] spTake) (bT : Binds K fdt ["_law_pool_here", "_law_many"] []) (kT : PySem.W.keepIn K (.ref ft) = true) (mT : mg "_law_take" = some (.ref ft))
    (ml : mg "len" = none) (mr : mg "range" = none) (mk : mg "list" = none) : FnOk P w K mg base CX0 2 f fd ["_law_pool_here", "_law_things"] (spMixed K) := by
  refine F.ok scMixed (fun vs H Q E h => ?_) (fun cdv A outer s H vs Q E hr h => ?_)
  · obtain ⟨p, l, xs, n, rfl, _⟩ := h
    rfl
  obtain ⟨p, l, xs, n, rfl, hP, hn, hS, hlp, hxs, q⟩ := h
  refine ⟨_, pss_cons (ps_par (i := 2) (j := 3) rfl scMixed.nd rfl rfl (by decide) rfl rfl (pa_cons (pe_callTy call_list_of rfl mk PyProof.Rows.boot_list (pa_cons (pv 1) pa_nil)) (pa_cons (pe_lst pa_nil) pa_nil)) (by rfl))
    (pss_cons (ps_for PassesOwn.never rfl (pi_range1 rfl mr (pa_cons (pe_callB call_len_seq rfl ml PySem.boot_len (pa_cons (pv 1) pa_nil)) pa_nil)) (pg_name (i := 4) scMixed.nd rfl (Or.inl rfl))
      (pss_cons (ps_set (i := 5) scMixed.nd rfl (Or.inl rfl) (pe_call G hr rfl mT kT bT .nil pass0 (pa_cons (pv 0) (pa_cons (pe_callB call_len_seq rfl ml PySem.boot_len (pa_cons (pv 2) pa_nil)) pa_nil))))
      (pss_cons (ps_expr (pe_bm PySem.F.plainAttrs_list PySem.F.slot_list_append PySem.F.type_list_append mt_append (pv 3) (pa_cons (pe_ix ix_list (pv 2) (pv 5) (fun _ _ => rfl)) pa_nil)))
      (pss_one (ps_set (i := 2) scMixed.nd rfl (Or.inl rfl) (pe_op op_cat (pe_slice sl_list (pv 2) po_none (po_some (pv 5))) (pe_slice sl_list (pv 2) (po_some (pe_op op_add (pv 5) pe_int)) po_none)))))))
    (pss_one (ps_ret (pv 3)))), ?_⟩
  refine ⟨_, rfl, l, xs, rfl, hS, fun a ha => ⟨(by show 0 ≤ sizeLine; decide), fun b hb => ⟨_, _, rfl, ?_⟩⟩⟩
  have hb' : H b = none := by
    cases e : H b with
    | none => rfl
    | some o =>
      have z := same_new ha (.lst xs) b o e
      rw [z] at hb
      cases hb
  have nab : a ≠ b := ne_of_none upd_same hb
  have nbp : b ≠ p := hP.apart hb'
  have nap : a ≠ p := hP.apart ha
  have h0 : But p H (upd (upd H a (.lst xs)) b (.lst [])) := (But.refl.new ha).new hb
  refine ⟨_, rfl, l, xs, rfl, hS.but h0 hlp, (xs.length : Int), rfl, by omega, by omega, ?_⟩
  rw [Int.toNat_natCast]
  refine for_range (lo := 0) (n := xs.length) (fun i σ' H' => ∃ (a' : Addr) (ls fs : List V) (u v : Option V), σ' = [some (.ref p), some (.ref l), some (.ref a'), some (.ref b), u, v] ∧ H' a' = some (.lst ls) ∧ H' b = some (.lst fs) ∧ a' ≠ b ∧ a' ≠ p ∧
    (fs ++ ls).Perm xs ∧ fs.length = i ∧ But p H H' ∧ Pool H' p (n + i)) ?_ ?_ ?_
  · exact ⟨a, xs, [], none, none, rfl, by rw [upd_ne nab]; exact upd_same, upd_same, nab, nap, .refl _, rfl, h0, (hP.new ha).new hb⟩
  · rintro i σ' H' hi ⟨a', ls, fs, u, v, rfl, ea, eb, nab', nap', pm, hl, hB, hP'⟩
    have hll : fs.length + ls.length = xs.length := by rw [← List.length_append]; exact pm.length_eq
    refine ⟨_, rfl, _, rfl, a', ls, rfl, .inl (SqL.of ea), p, (ls.length : Int), n + i, rfl, hP', by omega, by omega, by omega, fun d o d0 d1 hP2 => ?_⟩
    have hB2 : But p H (upd H' p o) := hB.put
    have ea2 : (upd H' p o) a' = some (.lst ls) := by rw [upd_ne nap']; exact ea
    have eb2 : (upd H' p o) b = some (.lst fs) := by rw [upd_ne nbp]; exact eb
    generalize upd H' p o = H2 at hB2 ea2 eb2 hP2
    obtain ⟨k, rfl⟩ : ∃ k : Nat, d = (k : Int) := ⟨d.toNat, by omega⟩
    have hk : k < ls.length := by omega
    refine ⟨_, rfl, .inl ⟨rfl, _, SqL.of eb2⟩, _, rfl, _, rfl, a', ls, (k : Int), ls[k], rfl, rfl, SqL.of ea2, atI_nat (by simp [hk]), b, fs, ls[k], rfl, rfl, eb2, small1000' (by omega), ?_⟩
    have hb3 : But p H (upd H2 b (.lst (fs ++ [ls[k]]))) := hB2.mut hb'
    have ea3 : (upd H2 b (.lst (fs ++ [ls[k]]))) a' = some (.lst ls) := by rw [upd_ne nab']; exact ea2
    have eb3 : (upd H2 b (.lst (fs ++ [ls[k]]))) b = some (.lst (fs ++ [ls[k]])) := upd_same
    have hP3 : Pool (upd H2 b (.lst (fs ++ [ls[k]]))) p (n + i + 1) := hP2.ne nbp
    generalize upd H2 b (.lst (fs ++ [ls[k]])) = H3 at hb3 ea3 eb3 hP3
    refine ⟨_, rfl, _, rfl, (k : Int), rfl, a', ls, rfl, SqL.of ea3, fun p1 hp1 => ?_⟩
    rw [cut_to ls k (by omega)]
    refine ⟨_, rfl, _, rfl, _, _, rfl, rfl, ((k : Int) + 1), rfl, a', ls, rfl, SqL.of (same_new hp1 _ a' _ ea3), fun p2 hp2 => ?_⟩
    have ek : (k : Int) + 1 = ((k + 1 : Nat) : Int) := by omega
    rw [ek, cut_from ls (k + 1) (by omega)]
    refine ⟨p1, p2, _, _, rfl, rfl, same_new hp2 _ p1 _ upd_same, upd_same, ?_, fun r hr => ?_⟩
    · rw [List.length_take, List.length_drop]
      exact Nat.le_trans (show _ ≤ 10000 by omega) (by decide)
    have s1 : Same H3 (upd (upd (upd H3 p1 (.lst (ls.take k))) p2 (.lst (ls.drop (k + 1)))) r (.lst (ls.take k ++ ls.drop (k + 1)))) := ((same_new hp1 _).trans (same_new hp2 _)).trans (same_new hr _)
    have nrb : r ≠ b := (ne_of_none (same_new hp2 _ b _ (same_new hp1 _ b _ eb3)) hr).symm
    refine ⟨r, ls.take k ++ ls.drop (k + 1), fs ++ [ls[k]], some (.int (0 + i)), some (.int (k : Int)), rfl, upd_same, s1 b _ eb3, nrb, ?_, ?_, by simp [hl], hb3.trans (But.of s1), ?_⟩
    · exact (((hP3.new hp1).new hp2).apart hr)
    · refine List.Perm.trans ?_ pm
      rw [List.append_assoc]
      refine List.Perm.append_left _ ?_
      have e := List.take_append_drop k ls
      have e2 : ls.drop k = ls[k] :: ls.drop (k + 1) := List.drop_eq_getElem_cons hk
      rw [e2] at e
      conv => rhs; rw [← e]
      show (ls[k] :: (List.take k ls ++ List.drop (k + 1) ls)).Perm _
      exact List.perm_middle.symm
    · exact ((hP3.new hp1).new hp2).new hr
  · rintro σ' H' ⟨a', ls, fs, u, v, rfl, ea, eb, nab', nap', pm, hl, hB, hP'⟩
    have hll : fs.length + ls.length = xs.length := by rw [← List.length_append]; exact pm.length_eq
    have e0 : ls = [] := List.eq_nil_of_length_eq_zero (by omega)
    subst e0
    rw [List.append_nil] at pm
    exact ⟨_, rfl, q fs b H' pm hb' hB hP' eb⟩
end
end Rw
set_option Elab.async false
set_option linter.all false
set_option maxRecDepth 100000
set_option maxHeartbeats 4000000
namespace Rw
open PySem L2
abbrev sNames : Stmt := top 41
abbrev sWord : Stmt := top 43
abbrev sPairs : Stmt := top 45
theorem perm_map_inv {α β : Type} {f : α → β} : ∀ {ys : List β} {xs : List α}, ys.Perm (xs.map f) → ∃ zs : List α, zs.Perm xs ∧ ys = zs.map f
  | [], xs, h => by
    have e : xs.map f = [] := List.Perm.nil_eq h |>.symm
    have e2 : xs = [] := by simpa using e
    subst e2
    exact ⟨[], .refl _, rfl⟩
  | y :: t, xs, h => by
    have hy : y ∈ xs.map f := h.mem_iff.mp List.mem_cons_self
    obtain ⟨x, hx, e⟩ := List.mem_map.mp hy
    subst e
    obtain ⟨s, u, rfl⟩ := List.append_of_mem hx
    have h2 : (f x :: t).Perm (f x :: (s ++ u).map f) := by
      refine h.trans ?_
      rw [List.map_append, List.map_cons, List.map_append]
      exact List.perm_middle
    obtain ⟨zs, hz, e⟩ := perm_map_inv (List.Perm.cons_inv h2)
    subst e
    exact ⟨x :: zs, (List.Perm.cons x hz).trans List.perm_middle.symm, rfl⟩
def menu : List Str := ["a", "b", "x", "clock", "now", "abcdefgh", "z"]
theorem menu_nd : menu.Nodup := by decide +kernel
section
variable {P : Program} {w : World} {K : PySem.W.Frag} {mg : Str → Option Value} {base : Heap}
/-! ### names -/
def spNames : Sp := fun vs H Q _ => ∃ (p : Addr) (m n : Nat), vs = [.ref p, .int m] ∧ Pool H p n ∧ n + 7 ≤ 1000000000 ∧ m ≤ 7 ∧
  ∀ (ns : List Str) (r : Addr) (H' : Hp), ns.Nodup → (∀ x ∈ ns, x ∈ menu) → ns.length = m → H r = none → But p H H' → Pool H' p (n + 7) → H' r = some (.lst (ns.map V.str)) → Q (.ref r) H'
theorem scNames : FnScope ["_law_pool_here", "_law_many"] ["_law_pool_here", "_law_many"] (defScope sNames) := ⟨rfl, rfl, rfl, by decide +kernel, rfl, by decide +kernel, by decide +kernel⟩
theorem ok_names {f ft : Addr} {fd fdt : FuncData} (F : Fun K "_law_names" "_law_names" sNames f fd) (G : FnOk P w K mg base CX0 2 ft fdt ["_law_pool_here", "_law_things"] (spMixed K)) (bT : Binds K fdt ["_law_pool_here", "_law_things"] []) (kT : PySem.W.keepIn K (.ref ft) = true) (mT : mg "_law_mixed" = some (.ref ft)) :
    FnOk P w K mg base CX0 3 f fd ["_law_pool_here", "_law_many"] spNames := by
  refine F.ok scNames (fun vs H Q E h => ?_) (fun cdv A outer s H vs Q E hr h => ?_)
  · obtain ⟨p, m, n, rfl, _⟩ := h
    rfl
  obtain ⟨p, m, n, rfl, hP, hn, hm, q⟩ := h
  refine ⟨_, pss_one (ps_ret (pe_slice sl_list (pe_call G hr rfl mT kT bT .nil pass0 (pa_cons (pv 0) (pa_cons (pe_lst (pa_cons pe_str (pa_cons pe_str (pa_cons pe_str (pa_cons pe_str (pa_cons pe_str (pa_cons pe_str (pa_cons pe_str pa_nil)))))))) pa_nil))) po_none (po_some (pv 1)))), ?_⟩
  refine ⟨_, rfl, (by show 7 ≤ sizeLine; decide), fun l hl => ?_⟩
  have nl : l ≠ p := hP.apart hl
  have e7 : (menu.map V.str).length = 7 := rfl
  refine ⟨p, l, menu.map V.str, n, rfl, hP.new hl, by rw [e7]; omega, .inl (SqL.of upd_same), nl, by rw [e7]; omega, fun ys r H' pm hr' hB hP' hrr => ?_⟩
  rw [e7] at hP'
  obtain ⟨zs, hz, rfl⟩ := perm_map_inv pm
  have hl7 : zs.length = 7 := hz.length_eq
  refine ⟨_, rfl, (m : Int), rfl, r, _, rfl, SqL.of hrr, fun s hs => ?_⟩
  rw [cut_to _ m (by rw [List.length_map]; omega), ← List.map_take]
  have hB' : But p H H' := fun b o e n => hB b o (same_new hl _ b o e) n
  have hs0 : H s = none := by
    cases e : H s with
    | none => rfl
    | some o =>
      by_cases ne : s = p
      · subst ne
        obtain ⟨xs, e2⟩ := hP'.some
        rw [e2] at hs
        cases hs
      · rw [hB' s o e ne] at hs
        cases hs
  refine q (zs.take m) s _ ?_ (fun x hx => hz.mem_iff.mp (List.mem_of_mem_take hx)) (by rw [List.length_take]; omega) hs0 (hB'.new hs) (hP'.new hs) upd_same
  exact ((hz.nodup_iff.mpr menu_nd).sublist (List.take_sublist _ _))
/-! ### one of the things -/
def spOne (K : PySem.W.Frag) : Sp := fun vs H Q _ => ∃ (p l : Addr) (xs : List V) (n : Nat), vs = [.ref p, .ref l] ∧ Pool H p n ∧ n ≤ 1000000000 ∧ Seq K H l xs ∧ l ≠ p ∧ 0 < xs.length ∧ xs.length ≤ 10000 ∧
  ∀ (k : Nat) (v : V) (o : HO), xs[k]? = some v → Pool (upd H p o) p (n + 1) → Q v (upd H p o)
theorem scOne : FnScope ["_law_pool_here", "_law_things"] ["_law_pool_here", "_law_things"] (defScope sOne) := ⟨rfl, rfl, rfl, by decide +kernel, rfl, by decide +kernel, by decide +kernel⟩
theorem but_upd {H : Hp} {p : Addr} {o : HO} : But p H (upd H p o) := But.refl.put
theorem ok_one {f ft : Addr} {fd fdt : FuncData} (F : Fun K "_law_one" "_law_one" sOne f fd) (G : FnOk P w K mg base CX0 1 ft fdt ["_law_pool_here", "_law_many"] spTake) (bT : Binds K fdt ["_law_pool_here", "_law_many"] []) (kT : PySem.W.keepIn K (.ref ft) = true) (mT : mg "_law_take" = some (.ref ft))
    (ml : mg "len" = none) : FnOk P w K mg base CX0 2 f fd ["_law_pool_here", "_law_things"] (spOne K) := by
  refine F.ok scOne (fun vs H Q E h => ?_) (fun cdv A outer s H vs Q E hr h => ?_)
  · obtain ⟨p, l, xs, n, rfl, _⟩ := h
    rfl
  obtain ⟨p, l, xs, n, rfl, hP, hn, hS, hlp, h0, h1, q⟩ := h
  refine ⟨_, pss_one (ps_ret (pe_ix ix_seq (pv 1) (pe_call G hr rfl mT kT bT .nil pass0 (pa_cons (pv 0) (pa_cons (pe_callB call_len_seq rfl ml PySem.boot_len (pa_cons (pv 1) pa_nil)) pa_nil))) (fun _ _ => rfl))), ?_⟩
  refine ⟨_, rfl, _, rfl, _, rfl, l, xs, rfl, hS, p, (xs.length : Int), n, rfl, hP, hn, by omega, by omega, fun d o d0 d1 hP' => ?_⟩
  obtain ⟨k, rfl⟩ : ∃ k : Nat, d = (k : Int) := ⟨d.toNat, by omega⟩
  have hk : k < xs.length := by omega
  have e : xs[k]? = some xs[k] := by simp [hk]
  rcases hS.but (but_upd (o := o)) hlp with z | z
  · exact .inl ⟨l, xs, _, _, rfl, rfl, z, atI_nat e, q k _ o e hP'⟩
  · exact .inr (.inl ⟨l, xs, _, _, rfl, rfl, z, atI_nat e, q k _ o e hP'⟩)
/-! ### word: a bound of two numbers as a word and a number -/
def wordV (s : Int) : V := .str (if s = 1 then "below" else "upto")
def spWord (K : PySem.W.Frag) : Sp := fun vs H Q _ => ∃ (a : Addr) (n s : Int), vs = [.ref a] ∧ SqT K H a [.int n, .int s] ∧ ∀ r, H r = none → Q (.ref r) (upd H r (.tup [wordV s, .int n]))
theorem scWord : FnScope ["_law_bound"] ["_law_bound"] (defScope sWord) := ⟨rfl, rfl, rfl, by decide +kernel, rfl, by decide +kernel, by decide +kernel⟩
theorem ok_word {f : Addr} {fd : FuncData} (F : Fun K "_law_word" "_law_word" sWord f fd) : FnOk P w K mg base CX0 1 f fd ["_law_bound"] (spWord K) := by
  refine F.ok scWord (fun vs H Q E h => ?_) (fun cdv A outer s H vs Q E hr h => ?_)
  · obtain ⟨a, n, s, rfl, _⟩ := h
    rfl
  obtain ⟨a, n, s, rfl, hS, q⟩ := h
  refine ⟨_, pss_one (ps_ret (pe_tup (pa_cons (pe_ifExp (pt_cmpR op_eq (pe_ix ix_tup (pv 0) pe_int (fun _ _ => rfl)) pe_int (nomark _)) pe_str pe_str) (pa_cons (pe_ix ix_tup (pv 0) pe_int (fun _ _ => rfl)) pa_nil)))), ?_⟩
  have at0 : atI [V.int n, .int s] 0 = some (.int n) := rfl
  have at1 : atI [V.int n, .int s] 1 = some (.int s) := rfl
  refine ⟨_, rfl, a, _, _, _, rfl, rfl, hS, at1, rfl, _, rfl, ?_⟩
  refine ite2 (fun c => ?_) (fun c => ?_)
  · have c' : s = 1 := by
      have z := of_decide_eq_true c
      injection z
    refine ⟨_, rfl, a, _, _, _, rfl, rfl, hS, at0, (by show 2 ≤ sizeLine; decide), fun r hr' => ?_⟩
    have z := q r hr'
    unfold wordV at z
    rw [if_pos c'] at z
    exact z
  · have c' : ¬ s = 1 := fun e => c (decide_eq_true (by rw [e]))
    refine ⟨_, rfl, a, _, _, _, rfl, rfl, hS, at0, (by show 2 ≤ sizeLine; decide), fun r hr' => ?_⟩
    have z := q r hr'
    unfold wordV at z
    rw [if_neg c'] at z
    exact z
end
end Rw
set_option Elab.async false
set_option linter.all false
set_option maxRecDepth 100000
set_option maxHeartbeats 4000000
namespace Rw
open PySem L2
/-! ### what may change on the way, while a new list or dict at D grows -/
structure Stp (S : Hp → Hp → Prop) (D : Addr) : Prop where
  trans : ∀ {H H1 H2}, S H H1 → S H1 H2 → S H H2
  of : ∀ {H H1}, Same H H1 → S H H1
  keep : ∀ {H H1 o}, S H H1 → H D = some o → H1 D = some o
  put : ∀ {H H1 o}, S H H1 → H D = none → S H (upd H1 D o)
theorem stp_same (D : Addr) : Stp Same D := ⟨Same.trans, id, fun s h => s _ _ h, fun s h b o e => by rw [upd_ne (ne_of_none e h)]; exact s b o e⟩
theorem stp_but {p D : Addr} (h : D ≠ p) : Stp (But p) D := ⟨But.trans, But.of, fun s e => s _ _ e h, fun s e => s.mut e⟩
def chosen (n : Nat) (b : Nat → Bool) : List Nat := (List.range n).filter b
theorem chosen_yes {n : Nat} {b : Nat → Bool} (h : b n = true) : chosen (n + 1) b = chosen n b ++ [n] := by
  unfold chosen
  rw [List.range_succ, List.filter_append]
  simp [h]
theorem chosen_no {n : Nat} {b : Nat → Bool} (h : b n = false) : chosen (n + 1) b = chosen n b := by
  unfold chosen
  rw [List.range_succ, List.filter_append]
  simp [h]
theorem chosen_len (n : Nat) (b : Nat → Bool) : (chosen n b).length ≤ n := by
  unfold chosen
  have h := List.length_filter_le b (List.range n)
  rwa [List.length_range] at h
theorem Paired.snoc {α β : Type} {F : α → β → Prop} : ∀ {xs : List α} {ys : List β} {x : α} {y : β}, Paired F xs ys → F x y → Paired F (xs ++ [x]) (ys ++ [y])
  | _, _, _, _, .nil, h => .cons h .nil
  | _, _, _, _, .cons r t, h => .cons r (Rw.Paired.snoc t h)
theorem Paired.imp {α β : Type} {F G : α → β → Prop} : ∀ {xs : List α} {ys : List β}, Paired F xs ys → (∀ x y, x ∈ xs → F x y → G x y) → Paired G xs ys
  | _, _, .nil, _ => .nil
  | _, _, .cons r t, f => .cons (f _ _ List.mem_cons_self r) (Rw.Paired.imp t fun x y h => f x y (List.mem_cons_of_mem _ h))
/-- a comprehension of a list over a walk: b tells which turns give, Res what they give, Iv holds of the turn and the heap -/
theorem lc_mapI {J : It} {n : Nat} {G : Hp → Prop} {Y : Nat → Hp → V → Hp → Prop} {g : TG} {tt : TT} {te : TE} {vs : List Nat} {σ : L2.St} {H1 : Hp} {D : Addr} {Qd : Hp → Prop} {S : Hp → Hp → Prop} (w : Walk J n G Y) (st : Stp S D) (hD : H1 D = none) (hn : n ≤ 50000)
    (b : Nat → Bool) (Iv : Nat → Hp → Prop) (Res : Nat → Hp → V → Prop) (resS : ∀ i H H' y, S H H' → Res i H y → Res i H' y) (resD : ∀ i H y acc o, H D = some (.lst acc) → Res i H y → Res i (upd H D o) y)
    (iv0 : Iv 0 (upd H1 D (.lst []))) (ivD : ∀ i H acc acc', H D = some (.lst acc) → Iv i H → Iv i (upd H D (.lst acc'))) (hG : ∀ H, S H1 H → G H)
    (step : ∀ i x H H' (acc : List V) (N : VK) (Z : Hp → Prop), i < n → S H1 H → Iv i H → H D = some (.lst acc) → Y i H x H' → (b i = true → ∀ y H4, S H H4 → Iv (i + 1) H4 → Res i H4 y → N y H4) → (b i = false → ∀ H3, S H H3 → Iv (i + 1) H3 → Z H3) →
      g x (wipe σ vs) H' fun σ2 H2 => wipe σ2 vs = wipe σ vs ∧ tt σ2 H2 fun c H3 => if c = true then te σ2 H3 N else Z H3)
    (done : ∀ ys H', S H1 H' → Iv n H' → H' D = some (.lst ys) → Paired (fun i y => Res i H' y) (chosen n b) ys → Qd H') :
    ∃ W : Nat → Nat → Hp → Prop, (∃ m, W 0 m (upd H1 D (.lst []))) ∧ ∀ i m H, W i m H →
      (J.stop i H ∧ Qd H) ∨ (J.go i H ∧ ∃ Nx : Hp → Prop, (∀ H', Nx H' → ∃ m', m' < m ∧ W (i + 1) m' H') ∧ ∀ x H', J.yld i H x H' → g x (wipe σ vs) H' fun σ2 H2 => wipe σ2 vs = wipe σ vs ∧ tt σ2 H2 fun b H3 =>
        if b = true then te σ2 H3 fun y H4 => ∃ acc, H4 D = some (.lst acc) ∧ acc.length < sizeLine ∧ Nx (upd H4 D (.lst (acc ++ [y]))) else Nx H3) := by
  refine lc_it w (fun i H => S H1 H ∧ Iv i H ∧ ∃ ys, H D = some (.lst ys) ∧ Paired (fun i y => Res i H y) (chosen i b) ys) ⟨st.put (st.of (Same.refl _)) hD, iv0, [], upd_same, .nil⟩ (fun i H _ h => hG H h.1) ?_ fun H h => ?_
  · rintro i x H H' hi ⟨s, iv, ys, e, r⟩ y
    refine step i x H H' ys _ _ hi s iv e y (fun hb z H4 s4 iv4 rz => ?_) (fun hb H3 s3 iv3 => ?_)
    · have e4 := st.keep s4 e
      have hl : ys.length ≤ i := by rw [← Paired.length r]; exact chosen_len i b
      refine ⟨ys, e4, small1000' (by omega), st.put (st.trans s s4) hD, ivD _ _ _ _ e4 iv4, ys ++ [z], upd_same, ?_⟩
      rw [chosen_yes hb]
      exact Rw.Paired.snoc (Rw.Paired.imp r fun j y _ h => resD j H4 y ys _ e4 (resS j H H4 y s4 h)) (resD i H4 z ys _ e4 rz)
    · refine ⟨st.trans s s3, iv3, ys, st.keep s3 e, ?_⟩
      rw [chosen_no hb]
      exact Rw.Paired.imp r fun j y _ h => resS j H H3 y s3 h
  · obtain ⟨s, iv, ys, e, r⟩ := h
    exact done ys H s iv e r
theorem lc_map {J : It} {n : Nat} {G : Hp → Prop} {Y : Nat → Hp → V → Hp → Prop} {g : TG} {tt : TT} {te : TE} {vs : List Nat} {σ : L2.St} {H1 : Hp} {D : Addr} {Qd : Hp → Prop} {S : Hp → Hp → Prop} (w : Walk J n G Y) (st : Stp S D) (hD : H1 D = none) (hn : n ≤ 50000)
    (b : Nat → Bool) (Res : Nat → Hp → V → Prop) (resS : ∀ i H H' y, S H H' → Res i H y → Res i H' y) (resD : ∀ i H y acc o, H D = some (.lst acc) → Res i H y → Res i (upd H D o) y) (hG : ∀ H, S H1 H → G H)
    (step : ∀ i x H H' (acc : List V) (N : VK) (Z : Hp → Prop), i < n → S H1 H → H D = some (.lst acc) → Y i H x H' → (b i = true → ∀ y H4, S H H4 → Res i H4 y → N y H4) → (b i = false → ∀ H3, S H H3 → Z H3) →
      g x (wipe σ vs) H' fun σ2 H2 => wipe σ2 vs = wipe σ vs ∧ tt σ2 H2 fun c H3 => if c = true then te σ2 H3 N else Z H3)
    (done : ∀ ys H', S H1 H' → H' D = some (.lst ys) → Paired (fun i y => Res i H' y) (chosen n b) ys → Qd H') :
    ∃ W : Nat → Nat → Hp → Prop, (∃ m, W 0 m (upd H1 D (.lst []))) ∧ ∀ i m H, W i m H →
      (J.stop i H ∧ Qd H) ∨ (J.go i H ∧ ∃ Nx : Hp → Prop, (∀ H', Nx H' → ∃ m', m' < m ∧ W (i + 1) m' H') ∧ ∀ x H', J.yld i H x H' → g x (wipe σ vs) H' fun σ2 H2 => wipe σ2 vs = wipe σ vs ∧ tt σ2 H2 fun b H3 =>
        if b = true then te σ2 H3 fun y H4 => ∃ acc, H4 D = some (.lst acc) ∧ acc.length < sizeLine ∧ Nx (upd H4 D (.lst (acc ++ [y]))) else Nx H3) :=
  lc_mapI w st hD hn b (fun _ _ => True) Res resS resD True.intro (fun _ _ _ _ _ _ => True.intro) hG (fun i x H H' acc N Z hi s _ e y h1 h2 => step i x H H' acc N Z hi s e y (fun hb z H4 s4 r => h1 hb z H4 s4 True.intro r) fun hb H3 s3 => h2 hb H3 s3 True.intro)
    fun ys H' s _ e r => done ys H' s e r
theorem Paired.unsnoc {α β : Type} {F : α → β → Prop} : ∀ {xs : List α} {ys : List β} {x : α}, Paired F (xs ++ [x]) ys → ∃ zs y, ys = zs ++ [y] ∧ Paired F xs zs ∧ F x y
  | [], _, _, .cons r .nil => ⟨[], _, rfl, .nil, r⟩
  | _ :: _, _, _, .cons r t => by
    obtain ⟨zs, y, rfl, h1, h2⟩ := Rw.Paired.unsnoc t
    exact ⟨_ :: zs, y, rfl, .cons r h1, h2⟩
/-- which of a list's items -/
def ofL {α : Type} (xs : List α) (p : α → Bool) : Nat → Bool := fun i => match xs[i]? with | some x => p x | none => false
theorem ofL_at {α : Type} {xs : List α} {p : α → Bool} {i : Nat} {x : α} (h : xs[i]? = some x) : ofL xs p i = p x := by
  unfold ofL
  rw [h]
theorem chosen_ofL {α β : Type} {xs : List α} {p : α → Bool} {F : Nat → β → Prop} {G : α → β → Prop} (h : ∀ i x y, xs[i]? = some x → F i y → G x y) : ∀ {k : Nat} {ys : List β}, k ≤ xs.length → Paired F (chosen k (ofL xs p)) ys → Paired G ((xs.take k).filter p) ys
  | 0, _, _, r => by
    have r : Paired F [] _ := r
    cases r
    rw [List.take_zero]
    exact .nil
  | k + 1, ys, hk, r => by
    have hx : xs[k]? = some xs[k] := List.getElem?_eq_getElem (by omega)
    have e : (xs.take (k + 1)).filter p = (xs.take k).filter p ++ (if p xs[k] = true then [xs[k]] else []) := by
      rw [List.take_succ, hx, List.filter_append]
      show _ ++ List.filter p [xs[k]] = _
      rw [List.filter_cons, List.filter_nil]
    rw [e]
    cases hp : p xs[k] with
    | true =>
      have hb : ofL xs p k = true := by rw [ofL_at hx, hp]
      rw [chosen_yes hb] at r
      obtain ⟨zs, y, rfl, h1, h2⟩ := Rw.Paired.unsnoc r
      rw [if_pos rfl]
      exact Rw.Paired.snoc (chosen_ofL h (by omega) h1) (h k _ _ hx h2)
    | false =>
      have hb : ofL xs p k = false := by rw [ofL_at hx, hp]
      rw [chosen_no hb] at r
      rw [if_neg Bool.false_ne_true, List.append_nil]
      exact chosen_ofL h (by omega) r
theorem chosen_whole {α β : Type} {xs : List α} {p : α → Bool} {F : Nat → β → Prop} {G : α → β → Prop} (h : ∀ i x y, xs[i]? = some x → F i y → G x y) {ys : List β} (r : Paired F (chosen xs.length (ofL xs p)) ys) : Paired G (xs.filter p) ys := by
  have z := chosen_ofL h (Nat.le_refl _) r
  rwa [List.take_length] at z
/-- what gives references -/
theorem paired_refs {α : Type} {F : α → Addr → Prop} : ∀ {xs : List α} {ys : List V}, Paired (fun x y => ∃ a, y = .ref a ∧ F x a) xs ys → ∃ as : List Addr, ys = as.map V.ref ∧ Paired F xs as
  | _, _, .nil => ⟨[], rfl, .nil⟩
  | _, _, .cons ⟨a, e, h⟩ t => by
    obtain ⟨as, rfl, r⟩ := paired_refs t
    subst e
    exact ⟨a :: as, rfl, .cons h r⟩
theorem paired_map {α β γ : Type} {f : α → γ} {F : γ → β → Prop} : ∀ {xs : List α} {ys : List β}, Paired (fun x y => F (f x) y) xs ys → Paired F (xs.map f) ys
  | _, _, .nil => .nil
  | _, _, .cons r t => .cons r (paired_map t)
theorem paired_app {α β : Type} {F : α → β → Prop} : ∀ {xs xs' : List α} {ys ys' : List β}, Paired F xs ys → Paired F xs' ys' → Paired F (xs ++ xs') (ys ++ ys')
  | _, _, _, _, .nil, h => h
  | _, _, _, _, .cons r t, h => .cons r (paired_app t h)
/-! ### lists of pairs of texts -/
def IsPr (H : Hp) (a : Addr) (q : Str × Str) : Prop := H a = some (.tup [.str q.1, .str q.2])
def prsOf' (ns ms : List Str) : List (Str × Str) := ms.flatMap fun a => (ns.filter fun b => decide (b ≠ a)).map fun b => (a, b)
abbrev prsOf (ns : List Str) : List (Str × Str) := prsOf' ns ns
theorem IsPr.same {H H' : Hp} {a : Addr} {q : Str × Str} (h : IsPr H a q) (s : Same H H') : IsPr H' a q := s _ _ h
section
variable {P : Program} {w : World} {K : PySem.W.Frag} {mg : Str → Option Value} {base : Heap}
/-! ### pairs -/
def spPairs (K : PySem.W.Frag) : Sp := fun vs H Q _ => ∃ (l : Addr) (ns : List Str), vs = [.ref l] ∧ SqL K H l (ns.map V.str) ∧ ns.length ≤ 100 ∧
  ∀ (as : List Addr) (r : Addr) (H' : Hp), H r = none → Same H H' → Paired (fun q a => IsPr H' a q) (prsOf ns) as → H' r = some (.lst (as.map V.ref)) → Q (.ref r) H'
theorem scPairs : FnScope ["_law_ones", "_law_found", "_law_one_here", "_law_other"] ["_law_ones"] (defScope sPairs) := ⟨rfl, rfl, rfl, by decide +kernel, rfl, by decide +kernel, by decide +kernel⟩
theorem ok_pairs {f : Addr} {fd : FuncData} (F : Fun K "_law_pairs" "_law_pairs" sPairs f fd) : FnOk P w K mg base CX0 1 f fd ["_law_ones"] (spPairs K) := by
  refine F.ok scPairs (fun vs H Q E h => ?_) (fun cdv A outer s H vs Q E hr h => ?_)
  · obtain ⟨l, ns, rfl, _⟩ := h
    rfl
  obtain ⟨l, ns, rfl, hS, hn, q⟩ := h
  refine ⟨_, pss_cons (ps_set (i := 1) scPairs.nd rfl (Or.inl rfl) (pe_lst pa_nil))
    (pss_cons (ps_for PassesOwn.never rfl (pi_list (pv 0)) (pg_name (i := 2) scPairs.nd rfl (Or.inr rfl))
      (pss_one (ps_expr (pe_bm PySem.F.plainAttrs_list PySem.F.slot_list_extend PySem.F.type_list_extend mt_extend (pv 1) (pa_cons
        (pe_lc (own := [("_law_other", 3)]) (g := gName 3) rfl scPairs.nd (pi_list (pv 0)) (blkOk_by (N := ["_law_ones", "_law_found", "_law_one_here", "_law_other"]) (sc := defScope sPairs) (by decide +kernel))
          (fun _ _ _ _ _ => pg_name (i := 3) scPairs.nd rfl (Or.inl rfl)) (fun _ _ _ _ _ => pts_one (pt_cmpR op_ne (pv 3) (pv 2) (nomark _))) (fun _ _ _ _ _ => pe_tup (pa_cons (pv 2) (pa_cons (pv 3) pa_nil)))) pa_nil)))))
    (pss_one (ps_ret (pv 1)))), ?_⟩
  refine ⟨(by show 0 ≤ sizeLine; decide), fun d hd => ?_⟩
  have e0 : (ns.map V.str).length = ns.length := List.length_map _
  refine ⟨_, rfl, l, rfl, ⟨_, (same_new hd _).seq hS⟩, for_list (xs := ns.map V.str) (fun i σ' H' => ∃ (u v : Option V) (as : List Addr), σ' = [some (.ref l), some (.ref d), u, v] ∧ Same H H' ∧ H' d = some (.lst (as.map V.ref)) ∧ Paired (fun q a => IsPr H' a q) (prsOf' ns (ns.take i)) as ∧ as.length ≤ 100 * i) ?_ ?_ ?_ ?_⟩
  · exact ⟨none, none, [], rfl, same_new hd _, upd_same, .nil, Nat.zero_le _⟩
  · rintro i σ' H' _ ⟨u, v, as, rfl, s, ed, r, _⟩
    exact s.seq hS
  · rintro i x σ' H' hx ⟨u, v, as, rfl, s, ed, r, hl⟩
    obtain ⟨a, ha, rfl⟩ : ∃ a, ns[i]? = some a ∧ x = .str a := by
      rw [List.getElem?_map] at hx
      cases e : ns[i]? with
      | none => rw [e] at hx; cases hx
      | some a => rw [e] at hx; exact ⟨a, rfl, (Option.some.inj hx).symm⟩
    have hi : i < ns.length := (List.getElem?_eq_some_iff.mp ha).1
    refine ⟨_, rfl, .inl ⟨rfl, _, SqL.of ed⟩, _, rfl, l, rfl, ⟨_, s.seq hS⟩, fun D hD => ?_⟩
    refine lc_map (S := Same) (walk_list (K := K) (a := l) (xs := ns.map V.str)) (stp_same D) hD (by omega) (ofL ns fun b => decide (b ≠ a)) (fun j H y => ∃ r, y = .ref r ∧ ∃ c, ns[j]? = some c ∧ IsPr H r (a, c)) ?_ ?_ ?_ ?_ ?_
    · rintro j H2 H3 y s2 ⟨r, rfl, c, hc, h⟩
      exact ⟨r, rfl, c, hc, h.same s2⟩
    · rintro j H2 y acc o hacc ⟨r, rfl, c, hc, h⟩
      refine ⟨r, rfl, c, hc, ?_⟩
      unfold IsPr at h ⊢
      rw [upd_ne (ne_of h hacc (fun z => nomatch z))]
      exact h
    · intro H2 s2
      exact s2.seq (s.seq hS)
    · rintro j x H2 H3 acc N Z hj s2 hacc ⟨rfl, hx⟩ hyes hno
      obtain ⟨c, hc, rfl⟩ : ∃ c, ns[j]? = some c ∧ x = .str c := by
        rw [List.getElem?_map] at hx
        cases e : ns[j]? with
        | none => rw [e] at hx; cases hx
        | some c => rw [e] at hx; exact ⟨c, rfl, (Option.some.inj hx).symm⟩
      refine ⟨rfl, _, rfl, _, rfl, rfl, _, rfl, ?_⟩
      refine ite2 (fun h => ?_) (fun h => ?_)
      · have hne : c ≠ a := fun e => by
          rw [e] at h
          simp at h
        refine ⟨_, rfl, _, rfl, (by show 2 ≤ sizeLine; decide), fun r hr' => ?_⟩
        exact hyes (by rw [ofL_at hc]; exact decide_eq_true hne) _ _ (same_new hr' _) ⟨r, rfl, c, hc, upd_same⟩
      · have he : c = a := by
          by_cases e : c = a
          · exact e
          · exact absurd (show (!decide (V.str c = V.str a)) = true by simp [e]) h
        exact hno (by rw [ofL_at hc]; exact decide_eq_false (fun z => z he)) _ (Same.refl _)
    · intro ys H3 s3 e3 r3
      rw [e0] at r3
      have r4 : Paired (fun c y => ∃ r, y = .ref r ∧ IsPr H3 r (a, c)) (ns.filter fun b => decide (b ≠ a)) ys := chosen_whole (fun j c y hc ⟨r, hr, c', hc', h⟩ => ⟨r, hr, by rw [hc] at hc'; cases hc'; exact h⟩) r3
      obtain ⟨bs, rfl, r5⟩ := paired_refs r4
      have ed3 := s3 d _ ed
      have hbl : bs.length ≤ 100 := by
        have z1 := Paired.length r5
        have z2 := List.length_filter_le (fun b => decide (b ≠ a)) ns
        omega
      refine ⟨d, D, _, _, rfl, rfl, ed3, e3, ?_, ?_⟩
      · rw [List.length_map, List.length_map]
        exact Nat.le_trans (show _ ≤ 100000 by omega) (by decide)
      refine ⟨some (.str a), v, as ++ bs, rfl, (stp_same d).put (s.trans s3) hd, by rw [List.map_append]; exact upd_same, ?_, ?_⟩
      · have hk : ∀ (z : Addr) (q : Str × Str), IsPr H3 z q → IsPr (upd H3 d (.lst (as.map V.ref ++ bs.map V.ref))) z q := fun z q h => by
          unfold IsPr at h ⊢
          rw [upd_ne (ne_of h ed3 (fun z => nomatch z))]
          exact h
        have e1 : prsOf' ns (ns.take (i + 1)) = prsOf' ns (ns.take i) ++ (ns.filter fun b => decide (b ≠ a)).map fun b => (a, b) := by
          unfold prsOf'
          rw [List.take_succ, ha]
          simp
        rw [e1]
        exact paired_app (Rw.Paired.imp r fun q z _ h => hk z q (h.same s3)) (paired_map (F := fun q z => IsPr _ z q) (Rw.Paired.imp r5 fun c z _ h => hk z _ h))
      · rw [List.length_append]
        omega
  · rintro σ' H' ⟨u, v, as, rfl, s, ed, r, _⟩
    refine ⟨_, rfl, ?_⟩
    rw [e0, List.take_length] at r
    exact q as d H' hd s r ed
end
end Rw
set_option Elab.async false
set_option linter.all false
set_option maxRecDepth 100000
set_option maxHeartbeats 4000000
namespace Rw
open PySem L2
abbrev sDrawn : Stmt := top 46
/-! ### dicts with pairs of texts for keys -/
abbrev Pr := Str × Str
def key2 (q : Pr) : List Key := [.inr q.1, .inr q.2]
theorem key2_inj {q r : Pr} (h : key2 q = key2 r) : q = r := by
  obtain ⟨a, b⟩ := q
  obtain ⟨c, d⟩ := r
  unfold key2 at h
  injection h with h1 h2
  injection h2 with h2 _
  injection h1 with h1
  injection h2 with h2
  simp only at h1 h2
  rw [h1, h2]
section
variable {β : Type}
def look (m : List (Pr × β)) (q : Pr) : Option β := (m.find? fun e => decide (e.1 = q)).map (·.2)
theorem look_nil {q : Pr} : look ([] : List (Pr × β)) q = none := rfl
theorem look_pos {e : Pr × β} {m : List (Pr × β)} {q : Pr} (h : e.1 = q) : look (e :: m) q = some e.2 := by simp [look, List.find?_cons, h]
theorem look_neg {e : Pr × β} {m : List (Pr × β)} {q : Pr} (h : ¬ e.1 = q) : look (e :: m) q = look m q := by simp [look, List.find?_cons, h]
/-- the dict at d holds m, each worth as R tells -/
def DT (R : Hp → V → β → Prop) (H : Hp) (d : Addr) (m : List (Pr × β)) : Prop := ∃ kvs, H d = some (.dT kvs) ∧ Paired (fun e kv => kv.1 = key2 e.1 ∧ R H kv.2 e.2) m kvs
theorem pl_look {R : V → β → Prop} (q : Pr) : ∀ {m : List (Pr × β)} {kvs : List (List Key × V)}, Paired (fun e kv => kv.1 = key2 e.1 ∧ R kv.2 e.2) m kvs →
    (look m q = none ∧ valV kvs (key2 q) = none) ∨ ∃ b v, look m q = some b ∧ valV kvs (key2 q) = some v ∧ R v b
  | _, _, .nil => .inl ⟨rfl, rfl⟩
  | e :: m, kv :: kvs, .cons ⟨h1, h2⟩ t => by
    by_cases c : e.1 = q
    · exact .inr ⟨e.2, kv.2, look_pos c, valV_pos (by rw [h1, c]), h2⟩
    · rw [look_neg c, valV_neg (fun z => c (key2_inj (h1.symm.trans z)))]
      exact pl_look q t
theorem DT.len {R : Hp → V → β → Prop} {H : Hp} {d : Addr} {m : List (Pr × β)} (h : DT R H d m) : ∃ kvs, H d = some (.dT kvs) ∧ kvs.length = m.length := by
  obtain ⟨kvs, e, r⟩ := h
  exact ⟨kvs, e, (Paired.length r).symm⟩
theorem DT.mono {R : Hp → V → β → Prop} {H H' : Hp} {d : Addr} {m : List (Pr × β)} (h : DT R H d m) (e : ∀ o, H d = some o → H' d = some o) (f : ∀ v b, R H v b → R H' v b) : DT R H' d m := by
  obtain ⟨kvs, e1, r⟩ := h
  exact ⟨kvs, e _ e1, Rw.Paired.imp r fun x y _ z => ⟨z.1, f _ _ z.2⟩⟩
theorem DT.get {R : Hp → V → β → Prop} {H : Hp} {d a : Addr} {m : List (Pr × β)} {q : Pr} (h : DT R H d m) (ha : IsPr H a q) : ∃ o, DGet H d (.ref a) o ∧ ((look m q = none ∧ o = none) ∨ ∃ b v, look m q = some b ∧ o = some v ∧ R H v b) := by
  obtain ⟨kvs, e, r⟩ := h
  refine ⟨valV kvs (key2 q), DGet.t e ha, ?_⟩
  rcases pl_look (R := fun v b => R H v b) q r with ⟨h1, h2⟩ | ⟨b, v, h1, h2, h3⟩
  · exact .inl ⟨h1, h2⟩
  · exact .inr ⟨b, v, h1, h2, h3⟩
end
/-- a bound of two numbers -/
abbrev Bd := Int × Int
def RB : Hp → V → Bd → Prop := fun H v b => ∃ a, v = .ref a ∧ H a = some (.tup [.int b.1, .int b.2])
theorem RB.mono {H H' : Hp} {v : V} {b : Bd} (h : RB H v b) (s : ∀ a xs, H a = some (.tup xs) → H' a = some (.tup xs)) : RB H' v b := by
  obtain ⟨a, e, h⟩ := h
  exact ⟨a, e, s _ _ h⟩
/-- all tuples stay -/
def Tk (H H' : Hp) : Prop := ∀ a xs, H a = some (.tup xs) → H' a = some (.tup xs)
theorem Tk.of {H H' : Hp} (s : Same H H') : Tk H H' := fun a xs h => s _ _ h
theorem Tk.upd {H : Hp} {p : Addr} {u o : HO} (h : H p = some u) (n : ∀ xs, u ≠ .tup xs) : Tk H (upd H p o) := fun a xs e => by
  rw [upd_ne (ne_of e h (fun z => n xs z.symm))]
  exact e
theorem Tk.trans {H H1 H2 : Hp} (a : Tk H H1) (b : Tk H1 H2) : Tk H H2 := fun x xs h => b _ _ (a _ _ h)
theorem Pool.tk {H : Hp} {p : Addr} {n : Nat} {o : HO} (h : Pool H p n) : Tk H (upd H p o) := by
  obtain ⟨xs, e⟩ := h.some
  exact Tk.upd e fun _ z => nomatch z
theorem But.tk {H H' : Hp} {p : Addr} {n : Nat} (b : But p H H') (h : Pool H p n) : Tk H H' := fun a xs e => by
  obtain ⟨ys, e2⟩ := h.some
  exact b _ _ e (ne_of e e2 fun z => nomatch z)
/-! ### places: an int for each name -/
def Places (H : Hp) (d : Addr) (ns : List Str) : Prop := ∃ kvs, H d = some (.dK kvs) ∧ kvs.length ≤ 1000 ∧ ∀ x ∈ ns, ∃ z : Int, valV kvs (.inr x) = some (.int z) ∧ -6 ≤ z ∧ z ≤ 15
theorem merge_all {Pv : V → Prop} (k : Key) : ∀ (more acc : List (Key × V)), (∀ e ∈ more, Pv e.2) → (k ∈ more.map (·.1) ∨ ∃ v, valV acc k = some v ∧ Pv v) → ∃ v, valV (mergeK acc more) k = some v ∧ Pv v
  | [], acc, _, h => by
    rcases h with h | h
    · cases h
    · exact h
  | e :: more, acc, hp, h => by
    show ∃ v, valV (mergeK (putK acc e.1 e.2) more) k = some v ∧ Pv v
    refine merge_all k more _ (fun x hx => hp x (List.mem_cons_of_mem _ hx)) ?_
    by_cases c : k = e.1
    · exact .inr ⟨e.2, by rw [valV_put, if_pos c], hp e List.mem_cons_self⟩
    · rcases h with h | ⟨v, h1, h2⟩
      · rw [List.map_cons] at h
        rcases List.mem_cons.mp h with z | z
        · exact absurd z c
        · exact .inl z
      · exact .inr ⟨v, by rw [valV_put, if_neg c]; exact h1, h2⟩
theorem length_mergeK' (more acc : List (Key × V)) : (mergeK acc more).length ≤ acc.length + more.length := by
  have h := length_mergeK more acc
  omega
/-- all but what stands at p and d is as it was -/
def But2 (p d : Addr) (H H' : Hp) : Prop := ∀ b o, H b = some o → b ≠ p → b ≠ d → H' b = some o
theorem But2.refl {p d : Addr} {H : Hp} : But2 p d H H := fun _ _ h _ _ => h
theorem But2.trans {p d : Addr} {H H1 H2 : Hp} (a : But2 p d H H1) (b : But2 p d H1 H2) : But2 p d H H2 := fun c o h n m => b c o (a c o h n m) n m
theorem But2.of {p d : Addr} {H H' : Hp} (a : But p H H') : But2 p d H H' := fun b o h n _ => a b o h n
theorem But2.same {p d : Addr} {H H' : Hp} (a : Same H H') : But2 p d H H' := fun b o h _ _ => a b o h
theorem But2.put {p d : Addr} {H H' : Hp} {o : HO} (a : But2 p d H H') : But2 p d H (upd H' d o) := fun b u e n m => by
  rw [upd_ne m]
  exact a b u e n m
theorem perm_paired {α β : Type} {F : α → β → Prop} : ∀ {bs as : List β} {xs : List α}, bs.Perm as → Paired F xs as → ∃ qs : List α, qs.Perm xs ∧ Paired F qs bs := by
  intro bs as xs h
  induction h generalizing xs with
  | nil => intro r; cases r; exact ⟨[], .refl _, .nil⟩
  | cons x h ih =>
    intro r
    cases r with
    | cons r1 r2 =>
      obtain ⟨qs, h1, h2⟩ := ih r2
      exact ⟨_ :: qs, List.Perm.cons _ h1, .cons r1 h2⟩
  | swap x y l =>
    intro r
    cases r with
    | cons r1 r2 =>
      cases r2 with
      | cons r2 r3 => exact ⟨_, List.Perm.swap _ _ _, .cons r2 (.cons r1 r3)⟩
  | trans h1 h2 ih1 ih2 =>
    intro r
    obtain ⟨qs, a1, a2⟩ := ih2 r
    obtain ⟨qs', b1, b2⟩ := ih1 a2
    exact ⟨qs', b1.trans a1, b2⟩
theorem paired_at {α β : Type} {F : α → β → Prop} : ∀ {xs : List α} {ys : List β} {i : Nat} {y : β}, Paired F xs ys → ys[i]? = some y → ∃ x, xs[i]? = some x ∧ F x y
  | _, _, 0, _, .cons r _, e => by
    simp at e
    subst e
    exact ⟨_, rfl, r⟩
  | _, _, i + 1, y, .cons _ t, e => by
    obtain ⟨x, h1, h2⟩ := paired_at (i := i) t (by simpa using e)
    exact ⟨x, by simpa using h1, h2⟩
theorem prsOf_len (ns ms : List Str) : (prsOf' ns ms).length ≤ ms.length * ns.length := by
  unfold prsOf'
  induction ms with
  | nil => simp
  | cons a ms ih =>
    rw [List.flatMap_cons, List.length_append, List.length_map, List.length_cons, Nat.succ_mul]
    have h := List.length_filter_le (fun b => decide (b ≠ a)) ns
    omega
theorem prsOf_mem {ns ms : List Str} {q : Pr} (h : q ∈ prsOf' ns ms) : q.1 ∈ ms ∧ q.2 ∈ ns ∧ q.2 ≠ q.1 := by
  unfold prsOf' at h
  obtain ⟨a, ha, h⟩ := List.mem_flatMap.mp h
  obtain ⟨b, hb, rfl⟩ := List.mem_map.mp h
  obtain ⟨h1, h2⟩ := List.mem_filter.mp hb
  exact ⟨ha, h1, of_decide_eq_true h2⟩
theorem prsOf_nd {ns ms : List Str} (h1 : ns.Nodup) (h2 : ms.Nodup) : (prsOf' ns ms).Nodup := by
  unfold prsOf'
  induction ms with
  | nil => exact List.nodup_nil
  | cons a ms ih =>
    obtain ⟨ha, hm⟩ := List.nodup_cons.mp h2
    rw [List.flatMap_cons]
    refine List.nodup_append.mpr ⟨?_, ih hm, fun x hx y hy e => ?_⟩
    · exact List.Pairwise.map (fun b => (a, b)) (fun x y hne e => hne (Prod.mk.inj e).2) (List.Pairwise.filter _ h1)
    · subst e
      obtain ⟨b, hb, rfl⟩ := List.mem_map.mp hx
      obtain ⟨c, hc, hy⟩ := List.mem_flatMap.mp hy
      obtain ⟨d, _, e⟩ := List.mem_map.mp hy
      exact ha ((Prod.mk.inj e).1 ▸ hc)
section
variable {P : Program} {w : World} {K : PySem.W.Frag} {mg : Str → Option Value} {base : Heap}
def GoodB (ns : List Str) (m : List (Pr × Bd)) : Prop := (m.map (·.1)).Nodup ∧ ∀ e ∈ m, e.1 ∈ prsOf ns ∧ -1000 ≤ e.2.1 ∧ e.2.1 ≤ 1000 ∧ (e.2.2 = 0 ∨ e.2.2 = 1)
def spDrawn (K : PySem.W.Frag) : Sp := fun vs H Q _ => ∃ (p l : Addr) (ns : List Str) (n : Nat), vs = [.ref p, .ref l] ∧ Pool H p n ∧ n + 2000 ≤ 1000000000 ∧ SqL K H l (ns.map V.str) ∧ l ≠ p ∧ ns.length ≤ 7 ∧ (("" : Str) :: ns).Nodup ∧
  ∀ (m : List (Pr × Bd)) (d : Addr) (H' : Hp), GoodB (("" : Str) :: ns) m → H d = none → But p H H' → Pool H' p (n + 2000) → DT RB H' d m → Q (.ref d) H'
def PvD (p l dp dm : Addr) (z : Int) (H8 : Hp) (qs : List Pr) (n : Nat) (i : Nat) (σ' : L2.St) (H' : Hp) : Prop := ∃ (u5 u6 u7 u8 u9 : Option V) (m : List (Pr × Bd)), σ' = [some (.ref p), some (.ref l), some (.ref dp), some (.ref dm), some (.bl (decide (0 < z))), u5, u6, u7, u8, u9] ∧ But2 p dm H8 H' ∧ Pool H' p (n + 200 + 5 * i) ∧
    DT RB H' dm m ∧ m.length ≤ i ∧ (m.map (·.1)).Nodup ∧ ∀ e ∈ m, e.1 ∈ qs.take i ∧ -1000 ≤ e.2.1 ∧ e.2.1 ≤ 1000 ∧ (e.2.2 = 0 ∨ e.2.2 = 1)
def nDrawn : List Str := ["_law_pool_here", "_law_names_here", "_law_places", "_law_found", "_law_is_kept", "_law_pair", "_law_gap", "_law_bound", "_law_n", "_law_one_here"]
theorem scDrawn : FnScope nDrawn ["_law_pool_here", "_law_names_here"] (defScope sDrawn) := ⟨rfl, rfl, rfl, by decide +kernel, rfl, by decide +kernel, by decide +kernel⟩
theorem ok_drawn {f ft fm fp fo : Addr} {fd fdt fdm fdp fdo : FuncData} (F : Fun K "_law_drawn" "_law_drawn" sDrawn f fd)
    (GT : FnOk P w K mg base CX0 1 ft fdt ["_law_pool_here", "_law_many"] spTake) (bT : Binds K fdt ["_law_pool_here", "_law_many"] []) (kT : PySem.W.keepIn K (.ref ft) = true) (mT : mg "_law_take" = some (.ref ft))
    (GM : FnOk P w K mg base CX0 2 fm fdm ["_law_pool_here", "_law_things"] (spMixed K)) (bM : Binds K fdm ["_law_pool_here", "_law_things"] []) (kM : PySem.W.keepIn K (.ref fm) = true) (mM : mg "_law_mixed" = some (.ref fm))
    (GP : FnOk P w K mg base CX0 1 fp fdp ["_law_ones"] (spPairs K)) (bP : Binds K fdp ["_law_ones"] []) (kP : PySem.W.keepIn K (.ref fp) = true) (mP : mg "_law_pairs" = some (.ref fp))
    (GO : FnOk P w K mg base CX0 2 fo fdo ["_law_pool_here", "_law_things"] (spOne K)) (bO : Binds K fdo ["_law_pool_here", "_law_things"] []) (kO : PySem.W.keepIn K (.ref fo) = true) (mO : mg "_law_one" = some (.ref fo))
    (md : mg "dict" = none) (mk : mg "list" = none) (mi : mg "int" = none) : FnOk P w K mg base CX0 3 f fd ["_law_pool_here", "_law_names_here"] (spDrawn K) := by
  refine F.ok scDrawn (fun vs H Q E h => ?_) (fun cdv A outer s H vs Q E hr h => ?_)
  · obtain ⟨p, l, ns, n, rfl, _⟩ := h
    rfl
  obtain ⟨p, l, ns, n, rfl, hP, hn, hS, hlp, hl7, hnd, q⟩ := h
  have hu := hu_of hr
  have hr1 : Room 1 _ := hr.mono (by decide)
  refine ⟨_, pss_cons (ps_par (i := 2) (j := 3) rfl scDrawn.nd rfl rfl (by decide) rfl rfl (pa_cons (pe_callTy (call_dictP rfl) rfl md PyProof.Rows.boot_dict (pa_cons
      (pe_lc (own := [("_law_one_here", 9)]) (g := gName 9) (tt := tYes) rfl scDrawn.nd (pi_list (pv 1)) (blkOk_by (N := nDrawn) (sc := defScope sDrawn) (by decide +kernel)) (fun _ _ _ _ _ => pg_name (i := 9) scDrawn.nd rfl (Or.inl rfl)) (fun _ _ _ _ _ => pts_nil)
        (fun _ _ _ _ _ => pe_tup (pa_cons (pv 9) (pa_cons (pe_op op_sub (pe_call GT hr1 rfl mT kT bT .nil pass0 (pa_cons (pv 0) (pa_cons pe_int pa_nil))) pe_int) pa_nil)))) pa_nil)) (pa_cons pe_dnewT pa_nil)) (by rfl))
    (pss_cons (ps_dput hu (pv 2) pe_str pe_int rfl)
    (pss_cons (ps_set (i := 4) scDrawn.nd rfl (Or.inl rfl) (pe_cmpR op_gt (pe_call GT hr1 rfl mT kT bT .nil pass0 (pa_cons (pv 0) (pa_cons pe_int pa_nil))) pe_int (nomark _)))
    (pss_cons (ps_for PassesOwn.never rfl (pi_list (pe_call GM hr rfl mM kM bM .nil pass0 (pa_cons (pv 0) (pa_cons (pe_call GP hr1 rfl mP kP bP .nil pass0 (pa_cons (pe_op op_cat (pe_lst (pa_cons pe_str pa_nil)) (pe_callTy call_list_of rfl mk PyProof.Rows.boot_list (pa_cons (pv 1) pa_nil))) pa_nil)) pa_nil)))) (pg_name (i := 5) scDrawn.nd rfl (Or.inl rfl))
      (pss_cons (ps_set (i := 6) scDrawn.nd rfl (Or.inl rfl) (pe_op op_sub (pe_dget hu (pv 2) (pe_ix ix_tup (pv 5) pe_int (fun _ _ => rfl)) (fun _ _ => rfl)) (pe_dget hu (pv 2) (pe_ix ix_tup (pv 5) pe_int (fun _ _ => rfl)) (fun _ _ => rfl))))
      (pss_one (ps_if (pt_cmpR op_lt (pe_call GT hr1 rfl mT kT bT .nil pass0 (pa_cons (pv 0) (pa_cons pe_int pa_nil))) pe_int (nomark _))
        (pss_cons (ps_set (i := 7) scDrawn.nd rfl (Or.inl rfl) (pe_tup (pa_cons (pe_op op_sub (pe_call GT hr1 rfl mT kT bT .nil pass0 (pa_cons (pv 0) (pa_cons pe_int pa_nil))) pe_int) (pa_cons (pe_callTy call_int1 rfl mi PyProof.Rows.boot_int (pa_cons (pe_cmpR op_eq (pe_call GT hr1 rfl mT kT bT .nil pass0 (pa_cons (pv 0) (pa_cons pe_int pa_nil))) pe_int (nomark _)) pa_nil)) pa_nil))))
        (pss_cons (ps_if (pt_val (pv 4))
          (pss_cons (ps_set (i := 8) scDrawn.nd rfl (Or.inl rfl) (pe_op op_sub (pe_call GO hr rfl mO kO bO .nil pass0 (pa_cons (pv 0) (pa_cons (pe_lst (pa_cons pe_int (pa_cons pe_int (pa_cons pe_int (pa_cons pe_int pa_nil))))) pa_nil))) (pe_op op_fdivN (pe_op op_sub pe_int (pv 6)) pe_int)))
          (pss_one (ps_set (i := 7) scDrawn.nd rfl (Or.inl rfl) (pe_tup (pa_cons (pv 8) (pa_cons (pe_callTy call_int1 rfl mi PyProof.Rows.boot_int (pa_cons (pe_and (pe_cmpR op_lt (pv 6) (pe_op op_mul pe_int (pv 8)) (nomark _)) (pe_one (pe_cmpR op_eq (pe_call GT hr1 rfl mT kT bT .nil pass0 (pa_cons (pv 0) (pa_cons pe_int pa_nil))) pe_int (nomark _)))) pa_nil)) pa_nil)))))) pss_nil)
        (pss_one (ps_dput hu (pv 3) (pv 5) (pv 7) rfl)))) pss_nil))))
    (pss_one (ps_ret (pv 3)))))), ?_⟩
  have e0 : (ns.map V.str).length = ns.length := List.length_map _
  refine ⟨_, rfl, l, rfl, ⟨_, hS⟩, fun D hD => ?_⟩
  have nDp : D ≠ p := hP.apart hD
  refine lc_mapI (S := But p) (walk_list (K := K) (a := l) (xs := ns.map V.str)) (stp_but nDp) hD (by omega) (ofL ns fun _ => true) (fun i H' => Pool H' p (n + i))
    (fun j H y => ∃ r, y = .ref r ∧ r ≠ p ∧ ∃ (x : Str) (z : Int), ns[j]? = some x ∧ H r = some (.tup [.str x, .int z]) ∧ -6 ≤ z ∧ z ≤ 15) ?_ ?_ ?_ ?_ ?_ ?_ ?_
  · rintro j H2 H3 y s2 ⟨r, rfl, nr, x, z, hx, h, h1, h2⟩
    exact ⟨r, rfl, nr, x, z, hx, s2 _ _ h nr, h1, h2⟩
  · rintro j H2 y acc o hacc ⟨r, rfl, nr, x, z, hx, h, h1, h2⟩
    exact ⟨r, rfl, nr, x, z, hx, by rw [upd_ne (ne_of h hacc (fun z => nomatch z))]; exact h, h1, h2⟩
  · exact hP.new hD
  · intro i H2 acc acc' _ h
    exact h.ne nDp
  · intro H2 s2
    exact s2.sqL hS hlp
  · rintro j x H2 H3 acc N Z hj s2 iv hacc ⟨rfl, hx⟩ hyes hno
    obtain ⟨c, hc, rfl⟩ : ∃ c, ns[j]? = some c ∧ x = .str c := by
      rw [List.getElem?_map] at hx
      cases e : ns[j]? with
      | none => rw [e] at hx; cases hx
      | some c => rw [e] at hx; exact ⟨c, rfl, (Option.some.inj hx).symm⟩
    refine ⟨rfl, ?_⟩
    refine iteT (B := Z H3) ?_
    refine ⟨_, rfl, _, rfl, p, 22, n + j, rfl, iv, by omega, by decide, by decide, fun z o z0 z1 hP3 => ?_⟩
    refine ⟨_, _, rfl, rfl, (by show 2 ≤ sizeLine; decide), fun r hr' => ?_⟩
    exact hyes (by rw [ofL_at hc]) _ _ (but_upd.new hr') ((hP3.mono (by omega)).new hr') ⟨r, rfl, hP3.apart hr', c, z - 6, hc, upd_same, by omega, by omega⟩
  intro ys H3 s3 iv3 e3 r3
  rw [e0] at r3 iv3
  have r4 : Paired (fun x y => ∃ r, y = .ref r ∧ ∃ z : Int, H3 r = some (.tup [.str x, .int z]) ∧ -6 ≤ z ∧ z ≤ 15) (ns.filter fun _ => true) ys :=
    chosen_whole (fun j c y hc ⟨r, hr, _, c', z, hc', h⟩ => ⟨r, hr, z, by rw [hc] at hc'; cases hc'; exact h⟩) r3
  rw [List.filter_eq_self.mpr fun _ _ => rfl] at r4
  obtain ⟨ps, rfl, r5⟩ := paired_refs r4
  obtain ⟨kvs, hk1, hk2, hk3⟩ : ∃ kvs : List (Key × V), Paired (fun a kv => SqT K H3 a [kV kv.1, kv.2]) ps kvs ∧ kvs.map (·.1) = ns.map Sum.inr ∧ ∀ e ∈ kvs, ∃ z : Int, e.2 = .int z ∧ -6 ≤ z ∧ z ≤ 15 := by
    clear r3 r4 e3 iv3 s3 e0 hS hl7 hnd hlp q
    induction r5 with
    | nil => exact ⟨[], .nil, rfl, fun _ h => nomatch h⟩
    | cons h t ih =>
      obtain ⟨kvs, h1, h2, h3⟩ := ih
      obtain ⟨z, hz, z1, z2⟩ := h
      refine ⟨(Sum.inr _, V.int z) :: kvs, .cons (.inl (.inl hz)) h1, by rw [List.map_cons, List.map_cons, h2], fun e he => ?_⟩
      rcases List.mem_cons.mp he with rfl | he
      · exact ⟨z, rfl, z1, z2⟩
      · exact h3 e he
  refine ⟨D, ps, kvs, rfl, SqL.of e3, hk1, fun dp hdp dm hdm => ⟨_, _, rfl, ?_⟩⟩
  have kl : kvs.length = ns.length := by
    have z := congrArg List.length hk2
    rwa [List.length_map, List.length_map] at z
  have npd : dp ≠ dm := ne_of_none upd_same hdm
  have ndpp : dp ≠ p := iv3.apart hdp
  have hdm' : H3 dm = none := by
    cases e : H3 dm with
    | none => rfl
    | some o => rw [same_new hdp _ dm o e] at hdm; cases hdm
  have ndmp : dm ≠ p := iv3.apart hdm'
  have hHdm : H dm = none := s3.none hdm' ndmp
  have hHdp : H dp = none := s3.none hdp ndpp
  have dp1 : (upd (upd H3 dp (.dK (mergeK [] kvs))) dm (.dT [])) dp = some (.dK (mergeK [] kvs)) := by rw [upd_ne npd]; exact upd_same
  have dm1 : (upd (upd H3 dp (.dK (mergeK [] kvs))) dm (.dT [])) dm = some (.dT []) := upd_same
  have b1 : But p H (upd (upd H3 dp (.dK (mergeK [] kvs))) dm (.dT [])) := (s3.new hdp).new hdm
  have p1 : Pool (upd (upd H3 dp (.dK (mergeK [] kvs))) dm (.dT [])) p (n + ns.length) := (iv3.new hdp).new hdm
  generalize upd (upd H3 dp (.dK (mergeK [] kvs))) dm (.dT []) = H4 at dp1 dm1 b1 p1
  have ml : (mergeK ([] : List (Key × V)) kvs).length ≤ 7 := by
    have z := length_mergeK' kvs []
    rw [List.length_nil] at z
    omega
  refine ⟨_, rfl, dp, _, rfl, DPut.k (k := Sum.inr "") dp1 (small1000' (by omega)), ?_⟩
  have pl2 : Places (upd H4 dp (.dK (putK (mergeK [] kvs) (Sum.inr "") (V.int 0)))) dp (("" : Str) :: ns) := by
    refine ⟨_, upd_same, ?_, fun x hx => ?_⟩
    · have z := length_putK (mergeK [] kvs) (Sum.inr "" : Key) (V.int 0)
      omega
    · rw [valV_put]
      by_cases c : x = ""
      · rw [if_pos (by rw [c])]
        exact ⟨0, rfl, by decide, by decide⟩
      · rw [if_neg (fun z => c (Sum.inr.inj z))]
        obtain ⟨v, h1, z, h2, h3, h4⟩ := merge_all (Pv := fun v => ∃ z : Int, v = .int z ∧ -6 ≤ z ∧ z ≤ 15) (Sum.inr x) kvs [] (fun e he => hk3 e he) (.inl (by
          rw [hk2]
          exact List.mem_map.mpr ⟨x, (List.mem_cons.mp hx).resolve_left c, rfl⟩))
        subst h2
        exact ⟨z, h1, h3, h4⟩
  have dm2 : (upd H4 dp (.dK (putK (mergeK [] kvs) (Sum.inr "") (V.int 0)))) dm = some (.dT []) := by rw [upd_ne npd.symm]; exact dm1
  have b2 : But p H (upd H4 dp (.dK (putK (mergeK [] kvs) (Sum.inr "") (V.int 0)))) := b1.mut hHdp
  have p2 := p1.ne (o := .dK (putK (mergeK [] kvs) (Sum.inr "") (V.int 0))) ndpp
  generalize upd H4 dp (.dK (putK (mergeK [] kvs) (Sum.inr "") (V.int 0))) = H5 at pl2 dm2 b2 p2
  clear dp1 dm1 b1 p1 hdp hdm ml hk1 hk3 hk2 r5 r3 r4
  refine ⟨_, rfl, p, 4, n + ns.length, rfl, p2, by omega, by decide, by decide, fun z o _ _ p3 => ⟨_, _, rfl, rfl, ?_⟩⟩
  have pl3 : Places (upd H5 p o) dp (("" : Str) :: ns) := by
    obtain ⟨kvs, e, r⟩ := pl2
    exact ⟨kvs, by rw [upd_ne ndpp]; exact e, r⟩
  have dm3 : (upd H5 p o) dm = some (.dT []) := by rw [upd_ne ndmp]; exact dm2
  have b3 : But p H (upd H5 p o) := b2.put
  generalize upd H5 p o = H6 at pl3 dm3 b3 p3
  clear pl2 dm2 b2 p2
  -- the loop's list
  refine ⟨_, rfl, (by show 1 ≤ sizeLine; decide), fun a1 ha1 => ⟨_, rfl, l, _, rfl, .inl ((b3.new ha1).sqL hS hlp), fun a2 ha2 => ?_⟩⟩
  refine ⟨a1, a2, _, _, rfl, rfl, same_new ha2 _ _ _ upd_same, upd_same, ?_, fun a3 ha3 => ?_⟩
  · rw [e0]
    exact Nat.le_trans (show _ ≤ 100 by show 1 + ns.length ≤ 100; omega) (by decide)
  have s6 : Same H6 (upd (upd (upd H6 a1 (.lst [V.str ""])) a2 (.lst (ns.map V.str))) a3 (.lst ([V.str ""] ++ ns.map V.str))) := ((same_new ha1 _).trans (same_new ha2 _)).trans (same_new ha3 _)
  refine ⟨a3, ("" : Str) :: ns, rfl, SqL.of upd_same, by rw [List.length_cons]; omega, fun as r H7 hr7 s7 tl er => ?_⟩
  have p7 : Pool H7 p (n + ns.length + 1) := by
    obtain ⟨a, b, c, e, h⟩ := p3
    exact ⟨a, b, c, s7 _ _ (s6 _ _ e), h⟩
  have nrp : r ≠ p := by
    obtain ⟨xs, e⟩ := p3.some
    exact (ne_of_none (s6 _ _ e) hr7).symm
  have lpr : (prsOf (("" : Str) :: ns)).length ≤ 64 := by
    have z := prsOf_len (("" : Str) :: ns) (("" : Str) :: ns)
    rw [List.length_cons] at z
    have z2 : (ns.length + 1) * (ns.length + 1) ≤ 8 * 8 := Nat.mul_le_mul (by omega) (by omega)
    exact Nat.le_trans z z2
  have las : as.length = (prsOf (("" : Str) :: ns)).length := (Paired.length tl).symm
  refine ⟨p, r, as.map V.ref, n + ns.length + 1, rfl, p7, by rw [List.length_map]; omega, .inl (SqL.of er), nrp, by rw [List.length_map]; omega, fun ys r2 H8 pm hr8 b8 p8 er8 => ?_⟩
  rw [List.length_map] at p8
  obtain ⟨bs, hbs, rfl⟩ := perm_map_inv pm
  obtain ⟨qs, hqs, tl2⟩ := perm_paired hbs tl
  have tl3 : Paired (fun q a => IsPr H8 a q) qs bs := Rw.Paired.imp tl2 fun q a _ h => (b8.tk p7) _ _ h
  have b8' : But p H6 H8 := (But.of (s6.trans s7)).trans b8
  have dm8 : H8 dm = some (.dT []) := b8' _ _ dm3 ndmp
  have pl8 : Places H8 dp (("" : Str) :: ns) := by
    obtain ⟨kvs, e, r⟩ := pl3
    exact ⟨kvs, b8' _ _ e ndpp, r⟩
  have nrd : r2 ≠ dm := ne_of er8 dm8 fun z => nomatch z
  have nrp2 : r2 ≠ p := by
    obtain ⟨xs, e⟩ := p7.some
    exact (ne_of_none e hr8).symm
  have bH8 : But p H H8 := b3.trans b8'
  have hq64 : qs.length ≤ 64 := by rw [hqs.length_eq]; exact lpr
  have p8 : Pool H8 p (n + 200) := p8.mono (by omega)
  have qnd : qs.Nodup := hqs.nodup_iff.mpr (prsOf_nd hnd hnd)
  have qin : ∀ q ∈ qs, q ∈ prsOf (("" : Str) :: ns) := fun q h => hqs.mem_iff.mp h
  have lb : bs.length = qs.length := (Paired.length tl3).symm
  refine ⟨r2, rfl, ⟨_, SqL.of er8⟩, for_list (xs := bs.map V.ref) (PvD p l dp dm z H8 qs n) ?_ ?_ ?_ ?_⟩
  · exact ⟨none, none, none, none, none, [], rfl, .refl, p8, ⟨[], dm8, .nil⟩, Nat.le_refl _, List.nodup_nil, fun _ h => nomatch h⟩
  · rintro i σ' H' _ ⟨u5, u6, u7, u8, u9, m, rfl, hB, _⟩
    exact SqL.of (hB _ _ er8 nrp2 nrd)
  · rintro i x σ' H' hx ⟨u5, u6, u7, u8, u9, m, rfl, hB, hPo, hD, hm1, hm2, hm3⟩
    obtain ⟨a, ha, rfl⟩ : ∃ a, bs[i]? = some a ∧ x = .ref a := by
      rw [List.getElem?_map] at hx
      cases e : bs[i]? with
      | none => rw [e] at hx; cases hx
      | some a => rw [e] at hx; exact ⟨a, rfl, (Option.some.inj hx).symm⟩
    obtain ⟨pr, hpr, hia⟩ := paired_at tl3 ha
    have hi : i < bs.length := (List.getElem?_eq_some_iff.mp ha).1
    have nap : a ≠ p := by
      obtain ⟨xs, e⟩ := p8.some
      exact ne_of hia e fun z => nomatch z
    have nad : a ≠ dm := ne_of hia dm8 fun z => nomatch z
    have hiaH : IsPr H' a pr := hB _ _ hia nap nad
    have pmem := prsOf_mem (qin pr (List.mem_of_getElem? hpr))
    obtain ⟨kv8, ek8, _, hk8⟩ := pl8
    have ekH : H' dp = some (.dK kv8) := hB _ _ ek8 ndpp npd
    obtain ⟨z1, hz1, z1a, z1b⟩ := hk8 pr.1 pmem.1
    obtain ⟨z2, hz2, z2a, z2b⟩ := hk8 pr.2 pmem.2.1
    have g1 : DGet H' dp (.str pr.1) (some (.int z1)) := by
      have z := DGet.k (k := Sum.inr pr.1) ekH
      rw [hz1] at z
      exact z
    have g2 : DGet H' dp (.str pr.2) (some (.int z2)) := by
      have z := DGet.k (k := Sum.inr pr.2) ekH
      rw [hz2] at z
      exact z
    have at0 : ∀ x y : V, atI [x, y] 0 = some x := fun _ _ => rfl
    have at1 : ∀ x y : V, atI [x, y] 1 = some y := fun _ _ => rfl
    -- the turn's end: the pair is stored
    have fin : ∀ (u6 u8 : Option V) (H9 : Hp) (bd : Bd) (b : Addr) (c : Nat), But2 p dm H' H9 → Pool H9 p c → c ≤ n + 200 + 5 * (i + 1) → DT RB H9 dm m → H9 b = some (.tup [.int bd.1, .int bd.2]) → -1000 ≤ bd.1 → bd.1 ≤ 1000 → (bd.2 = 0 ∨ bd.2 = 1) →
        ∀ D : Ends, D.nx = PvD p l dp dm z H8 qs n (i + 1) → sDPut (tVar 3) (tVar 5) (tVar 7) D
          [some (.ref p), some (.ref l), some (.ref dp), some (.ref dm), some (.bl (decide (0 < z))), some (.ref a), u6, some (.ref b), u8, u9] H9 := by
      intro u6 u8 H9 bd b c hB9 hP9 hc hD9 hb h1 h2 h3 De hDe
      obtain ⟨kvs, ek, r⟩ := hD9
      have hl : kvs.length = m.length := (Paired.length r).symm
      have hnew : pr ∉ m.map (·.1) := fun hin => by
        obtain ⟨e, he, h⟩ := List.mem_map.mp hin
        have z := (hm3 e he).1
        rw [h] at z
        obtain ⟨j, hj, e2⟩ := List.mem_iff_getElem.mp z
        rw [List.length_take] at hj
        rw [List.getElem_take] at e2
        have z2 : qs[j]? = some pr := by rw [List.getElem?_eq_getElem (by omega), e2]
        have z3 := nd_ix qnd z2 hpr
        omega
      have hln : look m pr = none := by
        cases e : look m pr with
        | none => rfl
        | some b =>
          unfold look at e
          cases e2 : m.find? fun e => decide (e.1 = pr) with
          | none => rw [e2] at e; cases e
          | some x =>
            have z := List.find?_some e2
            exact absurd (List.mem_map.mpr ⟨x, List.mem_of_find?_eq_some e2, of_decide_eq_true z⟩) hnew
      have hvn : valV kvs (key2 pr) = none := by
        rcases pl_look (R := fun v b => RB H9 v b) pr r with z | ⟨b, v, z, _⟩
        · exact z.2
        · rw [hln] at z; cases z
      refine ⟨_, rfl, _, rfl, _, rfl, dm, _, rfl, DPut.t (k := key2 pr) ek (hB9 _ _ hiaH nap nad) (small1000' (by omega)), ?_⟩
      rw [putK_new _ hvn, hDe]
      refine ⟨some (.ref a), u6, some (.ref b), u8, u9, m ++ [(pr, bd)], rfl, (hB.trans hB9).put, (hP9.mono hc).ne ndmp.symm.symm, ?_, ?_, ?_, ?_⟩
      · refine ⟨_, upd_same, Rw.Paired.snoc (Rw.Paired.imp r fun e kv _ h => ⟨h.1, h.2.mono (Tk.upd ek fun _ z => nomatch z)⟩) ⟨rfl, b, rfl, Tk.upd ek (fun _ z => nomatch z) _ _ hb⟩⟩
      · rw [List.length_append, List.length_singleton]; omega
      · rw [List.map_append]
        exact nd_snoc hm2 hnew
      · intro e he
        rcases List.mem_append.mp he with h | h
        · obtain ⟨y1, y2⟩ := hm3 e h
          refine ⟨?_, y2⟩
          rw [List.take_succ]
          exact List.mem_append_left _ y1
        · have e2 : e = (pr, bd) := List.mem_singleton.mp h
          subst e2
          refine ⟨?_, h1, h2, h3⟩
          rw [List.take_succ, hpr]
          exact List.mem_append_right _ (List.mem_singleton.mpr rfl)
    refine ⟨_, rfl, _, rfl, a, _, _, _, rfl, rfl, SqT.of hiaH, at0 _ _, dp, _, rfl, g1, _, rfl, _, rfl, a, _, _, _, rfl, rfl, SqT.of hiaH, at1 _ _, dp, _, rfl, g2, _, _, rfl, rfl, ?_⟩
    refine ⟨_, rfl, p, 5, n + 200 + 5 * i, rfl, hPo, by omega, by decide, by decide, fun y5 o5 _ _ hP5 => ⟨_, _, rfl, rfl, _, rfl, ?_⟩⟩
    have dtk : ∀ (H1 H2 : Hp) (c : Nat) (o : HO), Pool H1 p c → DT RB H1 dm m → DT RB (upd H1 p o) dm m := fun H1 H2 c o h1 h2 => h2.mono (fun o' e => by rw [upd_ne ndmp]; exact e) fun v b h => h.mono h1.tk
    have dtn : ∀ (H1 : Hp) (x : Addr) (o : HO), H1 x = none → DT RB H1 dm m → DT RB (upd H1 x o) dm m := fun H1 x o h1 h2 => h2.mono (fun o' e => same_new h1 _ _ _ e) fun v b h => h.mono (Tk.of (same_new h1 _))
    have hB5 : But2 p dm H' (upd H' p o5) := But2.of but_upd
    have hD5 := dtk H' H' _ o5 hPo hD
    generalize upd H' p o5 = H10 at hP5 hB5 hD5
    refine ite2 (fun h => ?_) (fun h => ?_)
    · refine ⟨_, rfl, p, 8, _, rfl, hP5, by omega, by decide, by decide, fun y8 o8 y8a y8b hP8 => ⟨_, _, rfl, rfl, _, rfl, p, 3, _, rfl, hP8, by omega, by decide, by decide, fun y3 o3 _ _ hP3 => ⟨rfl, .inr ⟨_, rfl, (by show 2 ≤ sizeLine; decide), fun b1 hb1 => ?_⟩⟩⟩⟩
      have hBa : But2 p dm H' (upd (upd (upd H10 p o8) p o3) b1 (.tup [.int (y8 - 3), .int (if decide (V.int y3 = .int 0) = true then 1 else 0)])) := hB5.trans (But2.of (((but_upd (o := o8)).trans (but_upd (o := o3))).new hb1))
      have hDa : DT RB (upd (upd (upd H10 p o8) p o3) b1 (.tup [.int (y8 - 3), .int (if decide (V.int y3 = .int 0) = true then 1 else 0)])) dm m := dtn _ _ _ hb1 (dtk _ H' _ _ hP8 (dtk _ H' _ _ hP5 hD5))
      have hPa := hP3.new (o := .tup [.int (y8 - 3), .int (if decide (V.int y3 = .int 0) = true then 1 else 0)]) hb1
      have hTa : (upd (upd (upd H10 p o8) p o3) b1 (.tup [.int (y8 - 3), .int (if decide (V.int y3 = .int 0) = true then 1 else 0)])) b1 = some (.tup [.int (y8 - 3), .int (if decide (V.int y3 = .int 0) = true then 1 else 0)]) := upd_same
      generalize upd (upd (upd H10 p o8) p o3) b1 (.tup [.int (y8 - 3), .int (if decide (V.int y3 = .int 0) = true then 1 else 0)]) = H11 at hBa hDa hPa hTa
      have s01 : ∀ c : Bool, (if c = true then (1 : Int) else 0) = 0 ∨ (if c = true then (1 : Int) else 0) = 1 := fun c => by cases c <;> simp
      refine ⟨_, rfl, _, rfl, ?_⟩
      refine ite2 (fun h => ?_) (fun h => ?_)
      · refine ⟨_, rfl, (by show 4 ≤ sizeLine; decide), fun b2 hb2 => ?_⟩
        refine ⟨p, b2, _, _, rfl, hPa.new hb2, by omega, .inl (SqL.of upd_same), hPa.apart hb2, by decide, by decide, fun k v o9 hk hP9 => ?_⟩
        obtain ⟨c9, rfl, c9a, c9b⟩ : ∃ c : Int, v = .int c ∧ 0 ≤ c ∧ c ≤ 3 := by
          match k, hk with
          | 0, hk => exact ⟨0, (Option.some.inj hk).symm, by decide, by decide⟩
          | 1, hk => exact ⟨0, (Option.some.inj hk).symm, by decide, by decide⟩
          | 2, hk => exact ⟨1, (Option.some.inj hk).symm, by decide, by decide⟩
          | 3, hk => exact ⟨3, (Option.some.inj hk).symm, by decide, by decide⟩
        refine ⟨_, rfl, _, _, rfl, rfl, _, _, rfl, rfl, ⟨by decide, by decide⟩, _, _, rfl, rfl, ?_⟩
        have hq1 : -100 ≤ c9 - (0 - (z1 - z2)).fdiv 3 ∧ c9 - (0 - (z1 - z2)).fdiv 3 ≤ 100 := by
          rw [Int.fdiv_eq_ediv_of_nonneg _ (by decide)]
          omega
        have hBb := hBa.trans (But2.of (d := dm) ((But.refl (p := p).new (o := .lst [V.int 0, .int 0, .int 1, .int 3]) hb2).trans (but_upd (o := o9))))
        have hDb := dtk _ H' _ o9 (hPa.new hb2) (dtn _ _ (.lst [V.int 0, .int 0, .int 1, .int 3]) hb2 hDa)
        generalize upd (upd H11 b2 (.lst [V.int 0, .int 0, .int 1, .int 3])) p o9 = H12 at hBb hDb hP9
        refine ⟨_, rfl, _, rfl, _, rfl, _, _, rfl, rfl, .inl (by decide), _, _, rfl, rfl, _, rfl, ?_⟩
        refine ite2 (fun h => ?_) (fun h => ?_)
        · refine ⟨_, rfl, p, 2, _, rfl, hP9, by omega, by decide, by decide, fun y2 o2 _ _ hP2 => ⟨rfl, .inr ⟨_, rfl, (by show 2 ≤ sizeLine; decide), fun b3 hb3 => ?_⟩⟩⟩
          exact fin _ _ _ (c9 - (0 - (z1 - z2)).fdiv 3, if decide (V.int y2 = .int 0) = true then 1 else 0) b3 _ (hBb.trans (But2.of ((but_upd (o := o2)).new hb3))) (hP2.new hb3) (by omega) (dtn _ _ _ hb3 (dtk _ H' _ _ hP9 hDb)) upd_same (by show -1000 ≤ c9 - _; omega) (by show c9 - _ ≤ 1000; omega) (s01 _) _ rfl
        · refine .inr ⟨_, rfl, (by show 2 ≤ sizeLine; decide), fun b3 hb3 => ?_⟩
          exact fin _ _ _ (c9 - (0 - (z1 - z2)).fdiv 3, 0) b3 _ (hBb.trans (But2.of (But.refl.new hb3))) (hP9.new hb3) (by omega) (dtn _ _ _ hb3 hDb) upd_same (by show -1000 ≤ c9 - _; omega) (by show c9 - _ ≤ 1000; omega) (.inl rfl) _ rfl
      · exact fin _ _ _ (y8 - 3, if decide (V.int y3 = .int 0) = true then 1 else 0) b1 _ hBa hPa (by omega) hDa hTa (by show -1000 ≤ y8 - 3; omega) (by show y8 - 3 ≤ 1000; omega) (s01 _) _ rfl
    · exact ⟨_, _, _, _, _, m, rfl, hB.trans hB5, hP5.mono (by omega), hD5, by omega, hm2, fun e he => ⟨by rw [List.take_succ]; exact List.mem_append_left _ (hm3 e he).1, (hm3 e he).2⟩⟩
  · rintro σ' H' ⟨u5, u6, u7, u8, u9, m, rfl, hB, hPo, hD, hm1, hm2, hm3⟩
    rw [List.length_map] at hPo hm1 hm3
    refine ⟨_, rfl, q m dm H' ⟨hm2, fun e he => ?_⟩ hHdm (fun b o e nb => ?_) (hPo.mono (by omega)) hD⟩
    · obtain ⟨h1, h2⟩ := hm3 e he
      exact ⟨qin _ (List.mem_of_mem_take h1), h2⟩
    · exact hB b o (bH8 b o e nb) nb (ne_of_none e hHdm)
end
end Rw
set_option Elab.async false
set_option linter.all false
set_option maxRecDepth 100000
set_option maxHeartbeats 4000000
namespace Rw
open PySem L2
section
variable {X : Cx}
/-- what stands in a list of pairs, each of a key's tuple and a worth -/
theorem keyed_of {pins : List (Addr × Obj)} {σ : L2.St} {H : Hp} {s : Shared} (I : Inv X pins σ H s) : ∀ {ps : List Addr} {kvs : List (List Key × V)}, Paired (fun p kv => ∃ b, H p = some (.tup [.ref b, kv.2]) ∧ H b = some (.tup (kv.1.map kV))) ps kvs →
    ∃ xs : List (List Key × Addr × Value), KT H kvs xs ∧ xs.length = ps.length ∧ ∀ (j : Nat) (x : List Key × Addr × Value), xs[j]? = some x → ∃ p, ps[j]? = some p ∧ PyProof.Rows.IsTup s.heap p #[.ref x.2.1, x.2.2] ∧ (tupleKind (mixKind X.prog X.w)).is s.heap x.1 x.2.1
  | _, _, .nil => ⟨[], .nil, rfl, fun j x e => by simp at e⟩
  | p :: ps, kv :: kvs, .cons h t => by
    obtain ⟨xs, r, hl, hx⟩ := keyed_of I t
    obtain ⟨b, hp, hb⟩ := h
    obtain ⟨_, its, rv, ht⟩ := (show ObjOk X.prog X.w H s.heap p (.tup [.ref b, kv.2]) from I.hok p _ hp)
    obtain ⟨u, y, ei, ru, ry⟩ := vals2 rv
    subst ei
    cases (show u = Value.ref b from ru)
    refine ⟨(kv.1, b, y) :: xs, .cons ⟨rfl, hb, ry⟩ r, by rw [List.length_cons, List.length_cons, hl], fun j x e => ?_⟩
    cases j with
    | zero =>
      have e' : (kv.1, b, y) = x := Option.some.inj e
      subst e'
      exact ⟨p, rfl, ht, key_of I.hok hb⟩
    | succ j =>
      obtain ⟨q, e1, e2⟩ := hx j x (by simpa using e)
      exact ⟨q, by simpa using e1, e2⟩
theorem kt_keys {H : Hp} : ∀ {kvs : List (List Key × V)} {xs : List (List Key × Addr × Value)}, KT H kvs xs → xs.map (·.1) = kvs.map (·.1)
  | _, _, .nil => rfl
  | _, _, .cons h t => by rw [List.map_cons, List.map_cons, kt_keys t, h.1]
/-- dict(..) of a list of pairs (tuple, worth), the tuples unlike -/
theorem call_dictT (hc : X.calm = true) (hu : X.A.units + 2 < cLine) : CallR X (.type "dict") (fun xs H Q => ∃ (a : Addr) (ps : List Addr) (kvs : List (List Key × V)), xs = [.ref a] ∧ SqL X.K H a (ps.map V.ref) ∧
    Paired (fun p kv => ∃ b, H p = some (.tup [.ref b, kv.2]) ∧ H b = some (.tup (kv.1.map kV))) ps kvs ∧ (kvs.map (·.1)).Nodup ∧ ∀ p, H p = none → Q (.ref p) (upd H p (.dT kvs))) := by
  intro pins s σ H xs us Q I r q
  obtain ⟨a, ps, kvs, ex, hq, hp, hnd, q⟩ := q
  subst ex
  obtain ⟨u, eu, rx⟩ := vals1 r
  subst eu
  cases rx
  obtain ⟨its, rv, pl, hz⟩ := I.list hq
  have ei := refs_at rv
  subst ei
  rw [List.length_map] at hz
  obtain ⟨ys, rel, hl, hys⟩ := keyed_of I hp
  obtain ⟨o, n, ho, hcl, hd, hdat⟩ := pl
  have nd2 : (ys.map (·.1)).Nodup := by rw [kt_keys rel]; exact hnd
  have hitems : PairItems s.heap (ps.map Value.ref).toArray (fun j => ps.getD j 0) (ys.map fun x => (Value.ref x.2.1, x.2.2)) := by
    refine ⟨by simp [hl], fun j k v e => ?_⟩
    rw [List.getElem?_map] at e
    cases ex : ys[j]? with
    | none => rw [ex] at e; cases e
    | some x =>
      rw [ex] at e
      have e2 : (Value.ref x.2.1, x.2.2) = (k, v) := Option.some.inj e
      injection e2 with e3 e4
      subst e3 e4
      obtain ⟨p, h1, h2, _⟩ := hys j x ex
      have h3 : ps.getD j 0 = p := by rw [List.getD_eq_getElem?_getD, h1] <;> rfl
      refine ⟨by simp [h1, h3], .inl ?_⟩
      show s.heap.IsTuple (ps.getD j 0) #[Value.ref x.2.1, x.2.2]
      rw [h3]
      obtain ⟨ob, z1, z2, n2, z3⟩ := h2
      exact ⟨ob, z1, z2, n2, z3⟩
  refine PySem.call_dict_pairsH (knd := tupleKind (mixKind X.prog X.w)) (ps := ys) (PairArg.list a _ (fun j => ps.getD j 0) (ys.map fun x => (Value.ref x.2.1, x.2.2))) (I.ok.hd hc) ?_ ⟨⟨o, n, ho, hcl, hd, hdat⟩, hitems⟩ ?_ ?_ ?_ ?_
  · show X.A.units + 2 < cLine
    exact hu
  · refine ⟨by simp, fun i key v e => ?_⟩
    have e : (ys.map fun x => (Value.ref x.2.1, x.2.2))[i]? = some (key, v) := e
    rw [List.getElem?_map] at e
    cases ex : ys[i]? with
    | none => rw [ex] at e; cases e
    | some x =>
      rw [ex] at e
      have e2 : (Value.ref x.2.1, x.2.2) = (key, v) := Option.some.inj e
      injection e2 with e3 e4
      subst e3 e4
      exact ⟨x.1, x.2.1, rfl, rfl⟩
  · intro h' hk x hx
    obtain ⟨j, hj, e⟩ := List.mem_iff_getElem.mp hx
    obtain ⟨p, _, _, ob, items, n2, z1, z2, z3, z4⟩ := hys j x (by rw [List.getElem?_eq_getElem hj, e])
    exact ⟨ob, items, n2, hk _ _ (Nat.ne_of_lt (Heap.lt_size z1)) (fun z => nomatch z) z1, z2, z3, z4⟩
  · rw [List.length_map, hl]
    exact hz
  intro h' tk hd' k
  rw [storedAllH_nil_of_nodup _ nd2] at hd'
  have hm : (s.heap.objs.size == sysModules) = false := beq_eq_false_iff_ne.mpr (Nat.ne_of_gt I.big)
  have kk : ∀ b o, s.heap.get? b = some o → h'.get? b = some o := fun b o e => k b o (fun z => nomatch z) e
  have hn := I.hok.fresh (Nat.le_refl s.heap.objs.size)
  obtain ⟨ob, es, ep, z1, z2, z3, z4, _, z5⟩ := hd'
  refine ⟨.ref s.heap.objs.size, upd H s.heap.objs.size (.dT kvs), I.laid (t' := tk) kk (Nat.le_refl _) ?_, rfl, q _ hn⟩
  refine ⟨by rw [Paired.length rel, hl]; exact hz, hm, ys, rel.keeps fun b xs e => ?_, ob, es, ep, z1, z2, z3, z4, z5⟩
  rw [upd_ne (ne_of_none e hn)]
  exact e
end
end Rw
set_option Elab.async false
set_option linter.all false
set_option maxRecDepth 100000
set_option maxHeartbeats 4000000
namespace Rw
open PySem L2
section
variable {prog : Program} {w : World} {κ : Type} [DecidableEq κ] {knd : HeapKind prog w κ} {A : Around} {E : Value → Shared → Prop} {s : Shared}
/-- of the entries on the left, whether each has its like on the right -/
inductive Agree (A : Around) (s : Shared) (ys : List (κ × Addr × Value)) : List (κ × Addr × Value) → Bool → Prop
  | done : Agree A s ys [] true
  | lack {x : κ × Addr × Value} {r : List (κ × Addr × Value)} : atKey ys x.1 = none → Agree A s ys (x :: r) false
  | meet {x : κ × Addr × Value} {r : List (κ × Addr × Value)} {p : Addr × Value} {e b : Bool} : atKey ys x.1 = some p → SeqAt.EqAt A s x.2.2 p.2 e → Agree A s ys r b → Agree A s ys (x :: r) (e && b)
theorem same_heap {nm : String} {a b : Addr} {xs ys : List (κ × Addr × Value)} {g : Bool} {Q : Bool → Shared → Prop} (na : (a == sysModules) = false) (nb : (b == sysModules) = false) (hu : knd.room A)
    (da : s.heap.DictOfH knd a xs) (db : s.heap.DictOfH knd b ys) (ag : xs.length = ys.length → Agree A s ys xs g) (q : Q (xs.length == ys.length && g) s) : wpAny (model prog w) A (Builtin.Dict.samePairs nm a b) Q E s := by
  obtain ⟨o1, e1, p1, g1, _, d1, t1, k1, n1⟩ := da
  obtain ⟨o2, e2, p2, g2, _, d2, t2, k2, n2⟩ := db
  have z1 : e1.size = xs.length := size_of_entries t1
  have z2 : e2.size = ys.length := size_of_entries t2
  unfold Builtin.Dict.samePairs Builtin.Dict.showsAll
  simp only [na, nb, Bool.false_eq_true, if_false]
  refine wpAny_bind (wpAny_pure (wpAny_bind (wpAny_pure (wpAny_bind (wpAny_dictEntries g1 d1 (wpAny_bind (wpAny_dictEntries g2 d2 ?_)))))))
  by_cases hz : xs.length = ys.length
  case neg =>
    have hne : (e1.size != e2.size) = true := by rw [z1, z2]; simpa using hz
    have hb : (xs.length == ys.length) = false := by simpa using hz
    rw [hb, Bool.false_and] at q
    simp only [hne, if_true]
    exact wpAny_bind (wpAny_rule (wpAny_pure q))
  have hne : (e1.size != e2.size) = false := by rw [z1, z2, hz]; simp
  have q' : Q g s := by simpa [hz] using q
  have ag := ag hz
  simp only [hne, Bool.false_eq_true, if_false]
  refine wpAny_bind (wpAny_dictEpoch g1 d1 (wpAny_bind ?_))
  simp only [Std.Legacy.Range.forIn_eq_forIn_range', Std.Legacy.Range.size, Nat.sub_zero, Nat.add_sub_cancel, Nat.div_one]
  refine wpAny_forIn_list _ (fun l c s1 => s1 = s ∧ c = (none, ()) ∧ ∃ i, l = List.range' i (e1.size - i) ∧ i ≤ e1.size ∧ Agree A s ys (xs.drop i) g) _ (fun j l c s1 hI => ?_) (fun c s1 hI => ?_) _ _ ⟨rfl, rfl, 0, by simp, Nat.zero_le _, ag⟩
  · obtain ⟨rfl, rfl, i, hl, hi, ag⟩ := hI
    have lt : i < e1.size := by
      refine Nat.lt_of_not_le fun h => ?_
      rw [Nat.sub_eq_zero_of_le h] at hl
      cases hl
    rw [show e1.size - i = (e1.size - (i + 1)) + 1 by omega, List.range'_succ] at hl
    injection hl with hj hl
    subst hj
    have lt' : j < xs.length := by omega
    have ex : e1[j]? = some (entryOfKey knd xs[j]) := by rw [entry_at t1 j, List.getElem?_eq_getElem lt'] <;> rfl
    have hd : xs.drop j = xs[j] :: xs.drop (j + 1) := List.drop_eq_getElem_cons lt'
    rw [hd] at ag
    refine wpAny_bind (wpAny_dictEntries g1 d1 ?_)
    rw [ex]
    refine wpAny_bind (wpAny_holding (wpAny_bind (wpAny_dictFind_heap hu (k1 _ (List.getElem_mem lt')) g2 d2 t2 k2 n2 (fun hno => ?_) (fun m p hp => ?_))))
    · have hn : atKey ys xs[j].1 = none := atKey_none_of_get hno
      cases ag with
      | lack _ => exact wpAny_pure (wpAny_pure (wpAny_pure q'))
      | meet h _ _ => rw [hn] at h; cases h
    · have hs : atKey ys xs[j].1 = some p := atKey_of_get n2 hp
      refine wpAny_bind (wpAny_dictEntries g2 d2 ?_)
      rw [entry_at t2 m, hp]
      cases ag with
      | lack h => rw [hs] at h; cases h
      | @meet _ _ p' e b h he hr =>
        rw [hs] at h
        cases h
        refine wpAny_holding (he prog w _ _ ?_)
        cases e with
        | false => exact wpAny_pure (wpAny_pure q')
        | true =>
          rw [Bool.true_and] at q'
          refine wpAny_bind (wpAny_dictEpoch g1 d1 ?_)
          simp only [bne_self_eq_false, Bool.false_eq_true, if_false]
          exact wpAny_pure ⟨rfl, rfl, j + 1, hl, lt, by rw [Bool.true_and]; exact hr⟩
  · obtain ⟨rfl, rfl, i, hl, hi, ag⟩ := hI
    have hi2 : i = e1.size := by
      refine Nat.le_antisymm hi (Nat.le_of_not_lt fun h => ?_)
      rw [show e1.size - i = (e1.size - (i + 1)) + 1 by omega, List.range'_succ] at hl
      cases hl
    rw [hi2, z1, List.drop_length] at ag
    cases ag
    exact wpAny_pure q'
theorem eq_heap {a b : Addr} {xs ys : List (κ × Addr × Value)} {g : Bool} {Q : Value → Shared → Prop} (na : (a == sysModules) = false) (nb : (b == sysModules) = false) (hr : knd.room A.in1) (hu : A.units < cLine)
    (da : s.heap.DictOfH knd a xs) (db : s.heap.DictOfH knd b ys) (ag : xs.length = ys.length → Agree A.in1 s ys xs g) (q : Q (.bool (xs.length == ys.length && g)) s) : wpAny (model prog w) A (compareOp .Eq (.ref a) (.ref b)) Q E s := by
  have ta := da.typeIs
  have tb := db.typeIs
  refine wpAny_richCompare_same_room (op := .Eq) ta tb PySem.F.slot_dict_eq (wpAny_call_entry PySem.F.slot_dict_eq ta PySem.F.entry_dict_eq ?_ (PySem.F.args_dict_eq_2 _ _)) hu
  show wpAny _ _ (Builtin.Dict.dictSlotArgs "__eq__" ⟨[.ref a, .ref b], []⟩ >>= fun p => _) _ _ s
  unfold Builtin.Dict.dictSlotArgs
  refine wpAny_bind (wpAny_bind (wpAny_notOrdered_dict ta ?_))
  show wpAny _ A.in1 (pure ((.ref a : Value), (.ref b : Value))) _ E s
  refine wpAny_pure (wpAny_bind ?_)
  refine wpAny_isInstance (T := "dict") tb PySem.F.sub_dict_dict ?_
  simp only [Bool.not_true, Bool.false_eq_true, if_false]
  refine wpAny_bind (wpAny_pure (wpAny_bind (wpAny_pure (wpAny_bind (same_heap na nb hr da db ag (wpAny_pure ⟨_, rfl, (fun x => by cases x), ?_⟩))))))
  simpa using q
end
/-! ### over the layer -/
/-- of two dicts with tuples for keys: whether each worth on the left is equal to the right one's, as data -/
inductive AgV (K : PySem.W.Frag) (H : Hp) (ls : List (List Key × V)) : List (List Key × V) → Bool → Prop
  | done : AgV K H ls [] true
  | lack {x : List Key × V} {r : List (List Key × V)} : valV ls x.1 = none → AgV K H ls (x :: r) false
  | meet {x : List Key × V} {r : List (List Key × V)} {v : V} {d e : PyData} {b : Bool} : valV ls x.1 = some v → Dp K H x.2 d → Dp K H v e → SeqAt.shaped d = true → SeqAt.shaped e = true → AgV K H ls r b → AgV K H ls (x :: r) (PyData.eqv d e && b)
def rEqDT (K : PySem.W.Frag) : R2 := fun x y H Q => ∃ (a b : Addr) (ks ls : List (List Key × V)) (g : Bool), x = .ref a ∧ y = .ref b ∧ H a = some (.dT ks) ∧ H b = some (.dT ls) ∧ AgV K H ls ks g ∧ Q (.bl (ks.length == ls.length && g)) H
section
variable {X : Cx}
theorem agree_of {pins : List (Addr × Obj)} {σ : L2.St} {H : Hp} {s : Shared} {ls : List (List Key × V)} {ys : List (List Key × Addr × Value)} (I : Inv X pins σ H s) (hu : X.A.in1.units + 64 < cLine) (rl : KT H ls ys) :
    ∀ {ks : List (List Key × V)} {xs : List (List Key × Addr × Value)} {g : Bool}, AgV X.K H ls ks g → KT H ks xs → Agree X.A.in1 s ys xs g
  | _, _, _, .done, r => by
    cases r
    exact .done
  | _, _, _, .lack h, .cons hx t => by
    refine .lack ?_
    have z := RelO.none_of (by rw [← h]; exact rl.val _)
    rw [← hx.1]
    exact Option.map_eq_none_iff.mp z
  | _, _, _, .meet h hd he sd se hr, .cons hx t => by
    obtain ⟨w', hw, rw'⟩ := RelO.some_of (by rw [← h]; exact rl.val _)
    obtain ⟨p, hp, hp2⟩ := Option.map_eq_some_iff.mp hw
    obtain ⟨as, r1⟩ := Dp.reads I _ _ _ hd hx.2.2
    obtain ⟨bs, r2⟩ := Dp.reads I _ _ _ he rw'
    refine .meet (p := p) (by rw [← hx.1]; exact hp) ?_ (agree_of I hu rl hr t)
    rw [hp2]
    exact W.keq_at r1 r2 sd se hu
theorem op_eq_dT (hu : X.A.units + 66 < cLine) : OpR X (compareOp .Eq) (rEqDT X.K) := by
  intro pins s σ H x y v u Q I rx ry h
  obtain ⟨a, b, ks, ls, g, rfl, rfl, ea, eb, ag, q⟩ := h
  obtain rfl : v = Value.ref a := rx
  obtain rfl : u = Value.ref b := ry
  obtain ⟨_, na, xs, ra, da⟩ := dt_of I.hok ea
  obtain ⟨_, nb, ys, rb, db⟩ := dt_of I.hok eb
  have hr : (tupleKind (mixKind X.prog X.w)).room X.A.in1 := show X.A.units + 1 < cLine by omega
  refine eq_heap na nb hr (by omega) da db (fun _ => agree_of I (show X.A.units + 1 + 64 < cLine by omega) rb ag ra) (fin_bl I q ?_)
  rw [Paired.length ra, Paired.length rb]
end
end Rw
set_option Elab.async false
set_option linter.all false
set_option maxRecDepth 100000
set_option maxHeartbeats 4000000
namespace Rw
open PySem PySem.Spec PyProof.Rows L2
/-! ### one clause of a comprehension, its turn -/
def turnOf (p : Pos) (t : Expr) (ifs : List Expr) (it : Value) (env : Env) (X : Sem PySem.Fin → Sem PySem.Fin) (L : Code) : Sem PySem.Fin := do
  standAt p
  match ← pyNext it with
  | none => pure (.done .next)
  | some v =>
    letOwnedTupleGo t it v
    assign t env v
    let mut ok := true
    for c in ifs do
      if ok then ok ← isTrue c env (eval c env)
    if ok then X (again L) else again L
def dputT (kx vx : Expr) (D : Addr) (env : Env) : Sem Unit := do
  let kv ← eval kx env
  let vv ← holding [kv] (eval vx env)
  standAt { kx.pos with endLine := vx.pos.endLine, endCol := vx.pos.endCol }
  holding [kv, vv] (dictSet D kv vv)
def putK' (kx vx : Expr) (D : Addr) (env : Env) (k : Sem PySem.Fin) : Sem PySem.Fin := do
  dputT kx vx D env
  k
theorem turn_d1 (kx vx t i : Expr) (ifs : List Expr) (scope : Scope) (pos : Pos) (it : Value) (D : Addr) (env : Env) :
    compTurn (.DictComp kx vx [⟨t, i, ifs, 0⟩] scope pos) 0 it (.ref D) env = turnOf i.pos t ifs it env (putK' kx vx D env) (.compLoop (.DictComp kx vx [⟨t, i, ifs, 0⟩] scope pos) 0 it (.ref D) env) := by rfl
theorem turn_d2i (kx vx t0 i0 t1 i1 : Expr) (ifs0 ifs1 : List Expr) (scope : Scope) (pos : Pos) (it : Value) (D : Addr) (env : Env) :
    compTurn (.DictComp kx vx [⟨t0, i0, ifs0, 0⟩, ⟨t1, i1, ifs1, 0⟩] scope pos) 1 it (.ref D) env = turnOf i1.pos t1 ifs1 it env (putK' kx vx D env) (.compLoop (.DictComp kx vx [⟨t0, i0, ifs0, 0⟩, ⟨t1, i1, ifs1, 0⟩] scope pos) 1 it (.ref D) env) := by rfl
def inner (e i1 : Expr) (acc : Value) (env : Env) (k : Sem PySem.Fin) : Sem PySem.Fin := do
  let x ← eval i1 env
  standAt i1.pos
  let x ← foldedSetIterable i1 env x
  let _ ← runOwn (.compStart e 1 (← holding [x] (pyIter x)) acc env) env
  k
theorem turn_d2o (kx vx t0 i0 t1 i1 : Expr) (ifs0 ifs1 : List Expr) (scope : Scope) (pos : Pos) (it : Value) (D : Addr) (env : Env) :
    compTurn (.DictComp kx vx [⟨t0, i0, ifs0, 0⟩, ⟨t1, i1, ifs1, 0⟩] scope pos) 0 it (.ref D) env = turnOf i0.pos t0 ifs0 it env (inner (.DictComp kx vx [⟨t0, i0, ifs0, 0⟩, ⟨t1, i1, ifs1, 0⟩] scope pos) i1 (.ref D) env)
      (.compLoop (.DictComp kx vx [⟨t0, i0, ifs0, 0⟩, ⟨t1, i1, ifs1, 0⟩] scope pos) 0 it (.ref D) env) := by rfl
/-- the deed of a turn, in a block's context -/
abbrev TB := L2.St → Hp → (Hp → Prop) → Prop
structure PB (Y : Cx) (vs : List Nat) (m : Sem PySem.Fin → Sem PySem.Fin) (t : TB) : Prop where
  run : ∀ (pins : List (Addr × Obj)) (s : Shared) (σ : L2.St) (H : Hp) (Q : Hp → Prop) (k : Sem PySem.Fin) (Z : PySem.Fin → Shared → Prop), Inv Y pins σ H s → t σ H Q →
    (∀ s' σ' H', Inv Y pins σ' H' s' → wipe σ' vs = wipe σ vs → Q H' → wpAny (model Y.prog Y.w) Y.A k Z (fun _ _ => False) s') → wpAny (model Y.prog Y.w) Y.A (m k) Z (fun _ _ => False) s
/-- turns by what holds between them -/
def tTurns (J : It) (g : TG) (tt : TT) (tb : TB) (vs : List Nat) (σ : L2.St) (W : Nat → Nat → Hp → Prop) (Dn : Hp → Prop) : Prop :=
  ∀ i m H, W i m H → (J.stop i H ∧ Dn H) ∨ (J.go i H ∧ ∃ Nx : Hp → Prop, (∀ H', Nx H' → ∃ m', m' < m ∧ W (i + 1) m' H') ∧
    ∀ x H', J.yld i H x H' → g x (wipe σ vs) H' fun σ2 H2 => wipe σ2 vs = wipe σ vs ∧ tt σ2 H2 fun b H3 => if b = true then tb σ2 H3 Nx else Nx H3)
section
variable {Y : Cx} {pins : List (Addr × Obj)} {σ : L2.St} {H : Hp} {s : Shared}
theorem turns_ok (hc : Y.calm = true) (hE : Y.xe = fun _ _ => False) {fp : List Addr} {it : Addr} {tn : Nat → Heap → Prop} {J : It} {t : Expr} {ifs : List Expr} {g : TG} {tt : TT} {tb : TB} {vs : List Nat} {e : Expr} {k : Nat} {acc : Value} {p : Pos}
    {m : Sem PySem.Fin → Sem PySem.Fin} {W : Nat → Nat → Hp → Prop} {Dn : Hp → Prop} {R : Result → Shared → Prop} {m0 : Nat}
    (T : Turn Y.prog Y.w Y.K t J fp it tn) (pg : PG Y t g) (pt : PTs Y ifs tt) (pb : PB Y vs m tb)
    (eq : compTurn e k (.ref it) acc Y.env = turnOf p t ifs (.ref it) Y.env m (.compLoop e k (.ref it) acc Y.env))
    (hden : (model Y.prog Y.w).den (.compLoop e k (.ref it) acc Y.env) = (compTurn e k (.ref it) acc Y.env).onRaise (fun x => do { noteFrame x Y.env; theTreesLotGoes x })) (hA : Y.A.under (.compLoop e k (.ref it) acc Y.env) = Y.A)
    (hf : ∀ H', (∀ b ∈ fp, H' b = none) → ∀ b ∈ fp, FpOk Y pins H' b) (tr : tTurns J g tt tb vs σ W Dn) (I : Inv Y pins (wipe σ vs) H s) (st : tn 0 s.heap) (hn : ∀ b ∈ fp, H b = none) (w0 : W 0 m0 H)
    (hR : ∀ s' H', Inv Y pins (wipe σ vs) H' s' → Dn H' → R (.ok .next) s') : codeAny (model Y.prog Y.w) Y.A (.compLoop e k (.ref it) acc Y.env) R s := by
  refine codeAny_loop rfl (fun n s' => ∃ i H', Inv Y pins (wipe σ vs) H' s' ∧ tn i s'.heap ∧ (∀ b ∈ fp, H' b = none) ∧ W i n H') (fun n s1 hI => ?_) m0 ⟨0, H, I, st, hn, w0⟩
  obtain ⟨i, H1, I1, st1, n1, w1⟩ := hI
  rw [hden, hA]
  refine wpAny_noted ?_
  rw [eq]
  unfold turnOf
  refine wpAny_bind (wpAny_standAt (wpAny_bind ?_))
  rcases tr i n H1 w1 with ⟨stop, dn⟩ | ⟨go, Nx, hNx, step⟩
  · refine thnF (T.done Y rfl rfl rfl hc i pins s1 _ H1 (fun _ _ => False) I1 (hf H1 n1) st1 stop) fun r s2 ⟨hr, I2⟩ => ?_
    subst hr
    exact wpAny_pure (hR s2 H1 I2 dn)
  · refine thnF (T.item Y rfl rfl rfl hc i pins s1 _ H1 (fun _ _ => False) I1 (hf H1 n1) st1 go) fun r s2 ⟨u, hr, h2⟩ => ?_
    subst hr
    refine wpAny_bind (thnF h2 fun _ s3 ⟨x, H3, I3, r3, y3, st3, n3⟩ => ?_)
    have I3' := I3.pinned (hf H3 n3) (T.obj _ _ st3)
    have pg1 := pg.run _ s3 _ H3 x u _ I3' r3 (step x H3 y3)
    rw [hE] at pg1
    refine wpAny_bind (thnF pg1 fun _ s4 ⟨σ4, H4, I4, hw4, q4⟩ => ?_)
    have pt1 := pt.run _ s4 σ4 H4 _ I4 q4
    rw [hE] at pt1
    have fin : ∀ {s' : Shared} {σ' : L2.St} {H' : Hp}, Inv Y (pins ++ pinsAt fp s3.heap) σ' H' s' → wipe σ' vs = wipe σ vs → Nx H' → ∃ m, m < n ∧ ∃ i H', Inv Y pins (wipe σ vs) H' s' ∧ tn i s'.heap ∧ (∀ b ∈ fp, H' b = none) ∧ W i m H' := fun {s' σ' H'} I' hw nx => by
      obtain ⟨m', hm, w'⟩ := hNx H' nx
      have stays : ∀ b ∈ fp, ∀ o, s3.heap.get? b = some o → s'.heap.get? b = some o ∧ H' b = none := fun b hb o ho =>
        have z := I'.pin (b, o) (List.mem_append_right _ (List.mem_append_right _ (mem_pinsAt hb ho)))
        ⟨z.1, z.2.1⟩
      refine ⟨m', hm, i + 1, H', I'.unpinned.weak (by rw [← hw, wipe_length]) (fun j v ej => ?_), T.keep _ _ _ st3 fun b hb o ho => (stays b hb o ho).1, fun b hb => ?_, w'⟩
      · rw [← hw] at ej
        exact (wipe_some ej).1
      · obtain ⟨o, ho, _⟩ := T.obj _ _ st3 b hb
        exact (stays b hb o ho).2
    refine wpAny_bind (thnF pt1 fun b s5 ⟨H5, I5, q5⟩ => ?_)
    cases b with
    | false =>
      simp only [Bool.false_eq_true, if_false] at q5 ⊢
      exact wpAny_pure ⟨rfl, fin I5 hw4 q5⟩
    | true =>
      simp only [if_true] at q5 ⊢
      refine wpAny_mono (pb.run _ s5 σ4 H5 _ _ _ I5 q5 fun s6 σ6 H6 I6 w6 q6 => wpAny_pure ⟨rfl, fin I6 (w6.trans hw4) q6⟩) (fun _ _ z => z) fun _ _ z => False.elim z
/-- D[key] = worth, the key a text or a number, or a tuple of such -/
def tbPut (D : Addr) (tk tv : TE) : TB := fun σ H Q => tk σ H fun y H1 => tv σ H1 fun z H2 => ∃ H3, DPut H2 D y z H3 ∧ Q H3
theorem pb_put (hE : Y.xe = fun _ _ => False) (hu : Y.A.units < cLine) {kx vx : Expr} {D : Addr} {tk tv : TE} {vs : List Nat} (hk : PE Y kx tk) (hv : PE Y vx tv) : PB Y vs (putK' kx vx D Y.env) (tbPut D tk tv) := by
  refine ⟨fun pins s σ H Q k Z I h hk' => ?_⟩
  unfold putK' dputT
  have h1 := hk.run pins s σ H _ I h
  rw [hE] at h1
  refine wpAny_bind (wpAny_bind (thnF h1 fun u s1 ⟨y, H1, I1, r1, q1⟩ => ?_))
  have h2 := hv.run pins s1 σ H1 _ I1 q1
  rw [hE] at h2
  refine wpAny_bind (wpAny_holding (thnF h2 fun w s2 ⟨z, H2, I2, r2, H3, q3, q⟩ => ?_))
  refine wpAny_bind (wpAny_standAt (wpAny_holding ?_))
  rcases q3 with ⟨kvs, kk, hD, ey, hl, e3⟩ | ⟨kvs, kk, b, hD, ey, hb, hl, e3⟩
  · subst ey e3
    exact d_dictSet I2 hD hl r1 r2 fun s3 I3 => hk' s3 σ _ I3 rfl q
  · subst ey e3
    cases (show u = Value.ref b from r1)
    obtain ⟨z1, hd, xs, rel, dd⟩ := dt_of I2.hok hD
    have hz : xs.length ≤ sizeLine := by rw [← Paired.length rel]; exact z1
    have hl2 : (putK kvs kk z).length ≤ sizeLine := by have := length_putK kvs kk z; omega
    refine wpAny_dictSet_heap (hsz := hz) (show Y.A.units < cLine from hu) (key_of I2.hok hb) dd fun h' dd' hs => hk' _ σ _ ?_ rfl q
    obtain ⟨o, es, ep, ho, j2, j3, j4, _, j5⟩ := dd'
    refine d_write I2 (by rw [hD]; exact True.intro) hs ⟨o, ho⟩ ⟨hl2, hd, _, (rel.put kk hb r2).keeps fun c ys ec => ?_, o, es, ep, ho, j2, j3, j4, j5⟩
    rw [upd_ne (ne_of ec hD (fun z => nomatch z))]
    exact ec
/-- the clauses behind, from their own source -/
def tbIn (wi : TI) (g : TG) (tt : TT) (tb : TB) (vs : List Nat) : TB := fun σ H Q => wi σ H fun J H1 => ∃ W : Nat → Nat → Hp → Prop, (∃ m, W 0 m H1) ∧ tTurns J g tt tb vs σ W Q
theorem start1_ok {A : Around} {R : Result → Shared → Prop} {kx vx t0 i0 t1 i1 : Expr} {ifs0 ifs1 : List Expr} {scope : Scope} {pos : Pos} {it acc : Value} {env : Env} {prog : Program} {w : World}
    (h0 : codeAny (model prog w) A (.compLoop (.DictComp kx vx [⟨t0, i0, ifs0, 0⟩, ⟨t1, i1, ifs1, 0⟩] scope pos) 1 it acc env) R s)
    (h : wpAny (model prog w) A (pyIter it) (fun it' s' => codeAny (model prog w) A (.compLoop (.DictComp kx vx [⟨t0, i0, ifs0, 0⟩, ⟨t1, i1, ifs1, 0⟩] scope pos) 1 it' acc env) R s') (fun _ _ => False) s) :
    codeAny (model prog w) A (.compStart (.DictComp kx vx [⟨t0, i0, ifs0, 0⟩, ⟨t1, i1, ifs1, 0⟩] scope pos) 1 it acc env) R s := by
  refine codeAny_of_tree ?_
  have e : (model prog w).den (.compStart (.DictComp kx vx [⟨t0, i0, ifs0, 0⟩, ⟨t1, i1, ifs1, 0⟩] scope pos) 1 it acc env) =
      (compStart (.DictComp kx vx [⟨t0, i0, ifs0, 0⟩, ⟨t1, i1, ifs1, 0⟩] scope pos) 1 it acc env).onRaise (fun x => do noteFrame x env; standAt theWindowsPlace) := rfl
  rw [e]
  refine wpAny_notedAt ?_
  unfold compStart
  refine wpAny_bind (wpAny_askSetting (wpAny_ite ?_))
  split
  · exact wpAny_pure ⟨rfl, h0⟩
  · refine wpAny_bind (wpAny_rule ?_)
    refine wpAny_bind (wpAny_standAt (wpAny_bind (thnF h fun it' s' h' => ?_)))
    exact wpAny_pure ⟨rfl, h'⟩
end
end Rw
set_option Elab.async false
set_option linter.all false
set_option maxRecDepth 100000
set_option maxHeartbeats 4000000
namespace Rw
open PySem PySem.Spec PyProof.Rows L2
section
variable {Y : Cx} {pins : List (Addr × Obj)} {σ : L2.St} {H : Hp} {s : Shared}
theorem wipe_in {σ : L2.St} {n : Nat} : ∀ {vs : List Nat}, n ∈ vs → (wipe σ vs)[n]? = if n < σ.length then some none else none
  | v :: vs, h => by
    unfold wipe
    by_cases e : v = n
    · subst e
      by_cases hl : v < σ.length
      · rw [List.getElem?_set_self (by rw [wipe_length]; exact hl), if_pos hl]
      · rw [List.getElem?_eq_none (by rw [List.length_set, wipe_length]; omega), if_neg hl]
    · rw [List.getElem?_set_ne e]
      exact wipe_in ((List.mem_cons.mp h).resolve_left fun z => e z.symm)
theorem wipe_sub {σ : L2.St} {vs us : List Nat} (h : ∀ i ∈ us, i ∈ vs) : wipe (wipe σ us) vs = wipe σ vs := by
  apply List.ext_getElem?
  intro n
  by_cases hn : n ∈ vs
  · rw [wipe_in hn, wipe_in hn, wipe_length]
  · rw [wipe_out hn, wipe_out hn, wipe_out fun z => hn (h n z)]
theorem pb_inner (hc : Y.calm = true) (hE : Y.xe = fun _ _ => False) {kx vx t0 i0 t1 i1 : Expr} {ifs0 ifs1 : List Expr} {scope : Scope} {pos : Pos} {D : Addr} {wi : TI} {g : TG} {tt : TT} {tb : TB} {vs us : List Nat}
    (hi : PI Y t1 i1 wi) (hg : PG Y t1 g) (ht : PTs Y ifs1 tt) (hb : PB Y us (putK' kx vx D Y.env) tb) (hs : ∀ x, foldedSetIterable i1 Y.env x = pure x) (hv : ∀ i ∈ us, i ∈ vs) :
    PB Y vs (inner (.DictComp kx vx [⟨t0, i0, ifs0, 0⟩, ⟨t1, i1, ifs1, 0⟩] scope pos) i1 (.ref D) Y.env) (tbIn wi g tt tb us) := by
  refine ⟨fun pins s σ H Q k Z I h hk => ?_⟩
  unfold inner
  have h1 := hi.run pins s σ H _ I h
  rw [hE] at h1
  refine wpAny_bind (thnF h1 fun xv s1 h2 => wpAny_bind (wpAny_standAt (wpAny_bind (wpAny_of_eq (hs xv) (wpAny_bind (wpAny_holding (thnF h2 fun itv s2 h3 => ?_)))))))
  obtain ⟨it, fp, tn, J, H2, e, I2, T, st, f2, W, ⟨m0, w0⟩, tr⟩ := h3
  subst e
  have loop : codeAny (model Y.prog Y.w) Y.A (.compLoop (.DictComp kx vx [⟨t0, i0, ifs0, 0⟩, ⟨t1, i1, ifs1, 0⟩] scope pos) 1 (.ref it) (.ref D) Y.env)
      (fun r s' => match r with | .ok _ => ∃ H', Inv Y pins (wipe σ us) H' s' ∧ Q H' | .error _ => False) s2 :=
    turns_ok hc hE T hg ht hb (turn_d2i kx vx t0 i0 t1 i1 ifs0 ifs1 scope pos (.ref it) D Y.env) rfl rfl (fun H' n b hb => ⟨n b hb, (f2 b hb).2⟩) tr
      (I2.weak (wipe_length _ _) fun j v e => (wipe_some e).1) st (fun b hb => (f2 b hb).1) w0 fun s' H' I' q => ⟨H', I', q⟩
  refine wpAny_bind (wpAny_runOwn ?_)
  rw [Around.mark_none]
  refine codeAny_mono (start1_ok loop (T.self Y.A 0 _ _ _ st loop)) fun r s' hr => ?_
  cases r with
  | ok f =>
    obtain ⟨H', I', q⟩ := hr
    exact hk s' _ H' I' (wipe_sub hv) q
  | error e => exact hr.elim
end
section
variable {X : Cx}
/-- the new dict is tracked as one of this kind -/
def NewD (o : HO) : Prop := o = .dK [] ∨ o = .dT []
theorem NewD.ok {o : HO} (h : NewD o) {P : Program} {w : World} {H : Hp} (hp : Heap) (hb : sysModules < hp.objs.size) : ObjOk P w H (hp.push { cls := .type "dict", data := .dict #[] }) hp.objs.size o := by
  rcases h with rfl | rfl
  · exact dk_empty hp hb
  · exact dt_empty hp hb
/-- a dict's comprehension of any clauses, the deed of its first clause's turn tb -/
def tDcO (o : HO) (wi : TI) (g : TG) (tt : TT) (tb : Addr → TB) (vs : List Nat) : TE := fun σ H Q => wi σ H fun J H1 => ∀ D, H1 D = none → ∃ W : Nat → Nat → Hp → Prop, (∃ m, W 0 m (upd H1 D o)) ∧ tTurns J g tt (tb D) vs σ W (Q (.ref D))
theorem dco_core {o : HO} (ho : NewD o) {pins : List (Addr × Obj)} {s : Shared} {σ : L2.St} {H : Hp} {Q : VK} {kx vx tg iter : Expr} {ifs : List Expr} {more : List Comprehension} {scope : Scope} {own : List (Str × Nat)} {pos pos' : Pos} {use : Option (Value → Sem Unit)} {Qf : Value → Shared → Prop} {wi : TI} {g : TG} {tt : TT} {tb : Addr → TB}
    {m : Addr → Env → Sem PySem.Fin → Sem PySem.Fin}
    (hc : X.calm = true) (hN : X.N.Nodup) (I : Inv X pins σ H s) (hi : PI X tg iter wi) (ok : BlkOk X.N X.env.scope scope own)
    (hg : ∀ (s : Shared) (H : Hp) (C : Addr) (cl : List (Str × Addr)) (fp : List Addr), PG (X.blk s H scope (compEnvC scope cl C X.env) fp) tg g)
    (ht : ∀ (s : Shared) (H : Hp) (C : Addr) (cl : List (Str × Addr)) (fp : List Addr), PTs (X.blk s H scope (compEnvC scope cl C X.env) fp) ifs tt)
    (hb : ∀ (s : Shared) (H : Hp) (C : Addr) (cl : List (Str × Addr)) (fp : List Addr) (D : Addr), PB (X.blk s H scope (compEnvC scope cl C X.env) fp) (own.map (·.2)) (m D (compEnvC scope cl C X.env)) (tb D))
    (eq : ∀ it D env, compTurn (.DictComp kx vx (⟨tg, iter, ifs, 0⟩ :: more) scope pos) 0 (.ref it) (.ref D) env = turnOf iter.pos tg ifs (.ref it) env (m D env) (.compLoop (.DictComp kx vx (⟨tg, iter, ifs, 0⟩ :: more) scope pos) 0 (.ref it) (.ref D) env))
    (hs : ∀ x, foldedSetIterable iter X.env x = pure x) (h : tDcO o wi g tt tb (own.map (·.2)) σ H Q)
    (fin : ∀ D C s' m H', Inv X pins σ H' s' → Q (.ref D) H' → s'.heap.Ns C m → FpOk X pins H' C → compPost (model X.prog X.w) X.A X.xe use Qf (.ref D) C (.ok .next) s') :
    wpAny (model X.prog X.w) X.A (comprehension (.DictComp kx vx (⟨tg, iter, ifs, 0⟩ :: more) scope pos) scope X.env pos' newDict false (eval iter X.env) use) Qf X.xe s := by
  have hfree : ∀ y ∈ scope.names, y.2 = .free → ∃ c, X.env.cells.lookup y.1 = some c := fun y hy e =>
    (ok.free y hy e).elim (fun k => I.ok.has _ (.inl k)) fun k => I.ok.has _ (.inr k)
  refine wpAny_comprehension_free (use := use) rfl hs (closure_ok hfree) ok.kind (fun y hy e => by rw [ok.uniq y hy, e])
    (thn (hi.run pins s σ H _ I h) fun xv s1 hx => thn hx fun itv s2 h2 => ?_)
  obtain ⟨it, fp, tn, J, H2, e, I2, T, st, f2, q⟩ := h2
  subst e
  refine wpAny_newObj_type (newEnv_comp ?_)
  generalize hD : s2.heap.objs.size = D
  have hDn : H2 D = none := I2.hok.fresh (Nat.le_of_eq hD)
  obtain ⟨W, ⟨m0, w0⟩, tr⟩ := q D hDn
  generalize hs3 : ({ s2 with heap := s2.heap.push { cls := .type "dict", data := .dict #[] } } : Shared) = s3
  have h3 : s3.heap = s2.heap.push { cls := .type "dict", data := .dict #[] } := by rw [← hs3]
  have I3 : Inv X pins σ (upd H2 D o) s3 := by
    rw [← hs3]
    refine I2.laid (t' := s2.toks) (fun b u eb => Heap.get?_push_of_some _ eb) (Nat.le_of_eq hD) ?_
    rw [← hD]
    exact ho.ok s2.heap I2.big
  have f3 : ∀ b ∈ fp, FpOk X pins (upd H2 D o) b ∧ b < s3.heap.objs.size := fun b hb => by
    obtain ⟨u, eb, _⟩ := T.obj _ _ st b hb
    have lt := Heap.lt_size eb
    refine ⟨⟨?_, (f2 b hb).2⟩, by rw [h3, Heap.size_push]; exact Nat.lt_succ_of_lt lt⟩
    rw [upd_ne (by rw [← hD]; exact Nat.ne_of_lt lt)]
    exact (f2 b hb).1
  have st3 : tn 0 s3.heap := T.keep _ _ _ st fun b _ u eb => by rw [h3]; exact Heap.get?_push_of_some _ eb
  have I4 := block_start I3 ok hN f3
  have pg := hg s3 (upd H2 D o) s3.heap.objs.size (cellsFrom (s3.heap.objs.size + 1) scope.names (cloFrom X.env.cells scope.names [])) fp
  have pt := ht s3 (upd H2 D o) s3.heap.objs.size (cellsFrom (s3.heap.objs.size + 1) scope.names (cloFrom X.env.cells scope.names [])) fp
  have pb := hb s3 (upd H2 D o) s3.heap.objs.size (cellsFrom (s3.heap.objs.size + 1) scope.names (cloFrom X.env.cells scope.names [])) fp D
  show codeAny _ _ (.compStart (.DictComp kx vx (⟨tg, iter, ifs, 0⟩ :: more) scope pos) 0 (.ref it) (.ref D) (compEnvC scope (cellsFrom (s3.heap.objs.size + 1) scope.names (cloFrom X.env.cells scope.names [])) s3.heap.objs.size X.env)) (compPost (model X.prog X.w) X.A X.xe use Qf (.ref D) s3.heap.objs.size) { s3 with heap := pushCells (s3.heap.push { cls := .type "dict", data := .dict #[] }) scope.names }
  generalize hce : compEnvC scope (cellsFrom (s3.heap.objs.size + 1) scope.names (cloFrom X.env.cells scope.names [])) s3.heap.objs.size X.env = ce at I4 pg pt pb ⊢
  have cL : ce.locals = s3.heap.objs.size := by subst hce; rfl
  have n3 : ∀ b ∈ fp, (upd H2 D o) b = none := fun b hb => (f3 b hb).1.1
  generalize upd H2 D o = H3 at I3 I4 pg pt pb w0 n3 f3
  generalize hs4 : ({ s3 with heap := pushCells (s3.heap.push { cls := .type "dict", data := .dict #[] }) scope.names } : Shared) = s4 at I4 ⊢
  have st4 : tn 0 s4.heap := T.keep _ _ _ st3 fun b _ u eb => by rw [← hs4]; exact pushCells_keeps _ _ _ _ (Heap.get?_push_of_some _ eb)
  have loop : codeAny (model X.prog X.w) X.A (.compLoop (.DictComp kx vx (⟨tg, iter, ifs, 0⟩ :: more) scope pos) 0 (.ref it) (.ref D) ce) (compPost (model X.prog X.w) X.A X.xe use Qf (.ref D) s3.heap.objs.size) s4 := by
    refine turns_ok (Y := X.blk s3 H3 scope ce fp) (W := W) (Dn := Q (.ref D)) hc rfl T pg pt pb (eq it D ce) rfl rfl
      (fun H' n b hb => ⟨n b hb, (I4.ok.exf b hb).1, I4.ok.exfs b hb, .inl hb, fun x c e => (I4.ok.exf b hb).2 x c e, fun p hp => absurd (show p ∈ ([] : List (Addr × Obj)) ++ [] from hp) (by simp)⟩) tr I4 st4 n3 w0 fun s6 H6 I6 qq => ?_
    have I7 : Inv X pins σ H6 s6 := I3.call' (ch := fp) I6.os I6.base I6.hok I6.bare fun b hb => ⟨(f3 b hb).1.2.2.2.1, (f3 b hb).1.2.1, (f3 b hb).1.2.2.2.2.1, (f3 b hb).1.2.2.2.2.2⟩
    have nC : H6 s3.heap.objs.size = none := by
      have z : H6 ce.locals = none := I6.free
      rwa [cL] at z
    obtain ⟨mm, hn, _⟩ := I6.loc
    have hn : s6.heap.Ns ce.locals mm := hn
    rw [cL] at hn
    exact fin D s3.heap.objs.size s6 mm H6 I7 qq hn (I3.fpOk (Nat.le_refl _) nC)
  exact codeAny_compStart_dict loop (T.self X.A 0 _ _ _ st4 loop)
theorem dco_val {pins : List (Addr × Obj)} {σ : L2.St} {Q : VK} {D C : Addr} {s' : Shared} {m : Str → Option Value} {H' : Hp} (I' : Inv X pins σ H' s') (q : Q (.ref D) H') (hn : s'.heap.Ns C m) (f : FpOk X pins H' C) :
    compPost (model X.prog X.w) X.A X.xe none (EP X pins σ Q) (.ref D) C (.ok .next) s' := by
  obtain ⟨k0, k1, k2, k3, k4, k5⟩ := f
  exact ⟨m, hn, fun h'' sb => ⟨.ref D, H', I'.turned (t' := s'.toks) (fun b u nb eb => (sb.2 b nb).trans eb) k0 k1 k3 k4 k5, rfl, q⟩⟩
/-- {k: v for t in i if ..} -/
theorem pe_dcO {o : HO} (ho : NewD o) {kx vx tg iter : Expr} {ifs : List Expr} {scope : Scope} {own : List (Str × Nat)} {pos : Pos} {wi : TI} {g : TG} {tt : TT} {tk tv : TE} (hc : X.calm = true) (hu : X.A.units < cLine) (hN : X.N.Nodup) (hi : PI X tg iter wi) (ok : BlkOk X.N X.env.scope scope own)
    (hg : ∀ (s : Shared) (H : Hp) (C : Addr) (cl : List (Str × Addr)) (fp : List Addr), PG (X.blk s H scope (compEnvC scope cl C X.env) fp) tg g)
    (ht : ∀ (s : Shared) (H : Hp) (C : Addr) (cl : List (Str × Addr)) (fp : List Addr), PTs (X.blk s H scope (compEnvC scope cl C X.env) fp) ifs tt)
    (hk : ∀ (s : Shared) (H : Hp) (C : Addr) (cl : List (Str × Addr)) (fp : List Addr), PE (X.blk s H scope (compEnvC scope cl C X.env) fp) kx tk)
    (hv : ∀ (s : Shared) (H : Hp) (C : Addr) (cl : List (Str × Addr)) (fp : List Addr), PE (X.blk s H scope (compEnvC scope cl C X.env) fp) vx tv) (hs : ∀ x, foldedSetIterable iter X.env x = pure x := by intro _; rfl) :
    PE X (.DictComp kx vx [⟨tg, iter, ifs, 0⟩] scope pos) (tDcO o wi g tt (fun D => tbPut D tk tv) (own.map (·.2))) :=
  ⟨fun pins s σ H Q I h => (arm_eval_DictComp ..) ▸ dco_core (m := fun D env => putK' kx vx D env) ho hc hN I hi ok hg ht (fun s H C cl fp D => pb_put (Y := X.blk s H scope (compEnvC scope cl C X.env) fp) rfl hu (hk s H C cl fp) (hv s H C cl fp)) (fun it D env => turn_d1 kx vx tg iter ifs scope pos (.ref it) D env) hs h fun D C s' m H' I' q hn f => dco_val I' q hn f⟩
/-- {k: v for t in i if .. for t1 in i1 if ..} -/
theorem pe_dcO2 {o : HO} (ho : NewD o) {kx vx tg iter tg1 iter1 : Expr} {ifs ifs1 : List Expr} {scope : Scope} {own : List (Str × Nat)} {us : List Nat} {pos : Pos} {wi wi1 : TI} {g g1 : TG} {tt tt1 : TT} {tk tv : TE} (hc : X.calm = true) (hu : X.A.units < cLine) (hN : X.N.Nodup) (hi : PI X tg iter wi) (ok : BlkOk X.N X.env.scope scope own) (hv1 : ∀ i ∈ us, i ∈ own.map (·.2))
    (hg : ∀ (s : Shared) (H : Hp) (C : Addr) (cl : List (Str × Addr)) (fp : List Addr), PG (X.blk s H scope (compEnvC scope cl C X.env) fp) tg g)
    (ht : ∀ (s : Shared) (H : Hp) (C : Addr) (cl : List (Str × Addr)) (fp : List Addr), PTs (X.blk s H scope (compEnvC scope cl C X.env) fp) ifs tt)
    (hi1 : ∀ (s : Shared) (H : Hp) (C : Addr) (cl : List (Str × Addr)) (fp : List Addr), PI (X.blk s H scope (compEnvC scope cl C X.env) fp) tg1 iter1 wi1)
    (hg1 : ∀ (s : Shared) (H : Hp) (C : Addr) (cl : List (Str × Addr)) (fp : List Addr), PG (X.blk s H scope (compEnvC scope cl C X.env) fp) tg1 g1)
    (ht1 : ∀ (s : Shared) (H : Hp) (C : Addr) (cl : List (Str × Addr)) (fp : List Addr), PTs (X.blk s H scope (compEnvC scope cl C X.env) fp) ifs1 tt1)
    (hk : ∀ (s : Shared) (H : Hp) (C : Addr) (cl : List (Str × Addr)) (fp : List Addr), PE (X.blk s H scope (compEnvC scope cl C X.env) fp) kx tk)
    (hv : ∀ (s : Shared) (H : Hp) (C : Addr) (cl : List (Str × Addr)) (fp : List Addr), PE (X.blk s H scope (compEnvC scope cl C X.env) fp) vx tv) (hs : ∀ x, foldedSetIterable iter X.env x = pure x := by intro _; rfl) (hs1 : ∀ env x, foldedSetIterable iter1 env x = pure x := by intro _ _; rfl) :
    PE X (.DictComp kx vx [⟨tg, iter, ifs, 0⟩, ⟨tg1, iter1, ifs1, 0⟩] scope pos) (tDcO o wi g tt (fun D => tbIn wi1 g1 tt1 (tbPut D tk tv) us) (own.map (·.2))) :=
  ⟨fun pins s σ H Q I h => (arm_eval_DictComp ..) ▸ dco_core (m := fun D env => inner (.DictComp kx vx [⟨tg, iter, ifs, 0⟩, ⟨tg1, iter1, ifs1, 0⟩] scope pos) iter1 (.ref D) env) ho hc hN I hi ok hg ht
    (fun s H C cl fp D => pb_inner (Y := X.blk s H scope (compEnvC scope cl C X.env) fp) hc rfl (hi1 s H C cl fp) (hg1 s H C cl fp) (ht1 s H C cl fp) (pb_put (Y := X.blk s H scope (compEnvC scope cl C X.env) fp) rfl hu (hk s H C cl fp) (hv s H C cl fp)) (fun x => hs1 _ x) hv1)
    (fun it D env => turn_d2o kx vx tg iter tg1 iter1 ifs ifs1 scope pos (.ref it) D env) hs h fun D C s' m H' I' q hn f => dco_val I' q hn f⟩
/-- name = {..} on one line, the name a local -/
theorem ps_setDcO {o : HO} (ho : NewD o) {i : Nat} {y : Str} {py : Pos} {kx vx tg iter : Expr} {ifs : List Expr} {scope : Scope} {own : List (Str × Nat)} {pos spos : Pos} {wi : TI} {g : TG} {tt : TT} {tk tv : TE} (hc : X.calm = true) (hu : X.A.units < cLine) (hN : X.N.Nodup) (hy : X.N[i]? = some y) (hyl : X.env.scope.names.lookup y = some .local)
    (hsw : swapsWith (.DictComp kx vx [⟨tg, iter, ifs, 0⟩] scope pos) (some (.Name y py)) spos.line X.env = pure true) (hi : PI X tg iter wi) (ok : BlkOk X.N X.env.scope scope own)
    (hg : ∀ (s : Shared) (H : Hp) (C : Addr) (cl : List (Str × Addr)) (fp : List Addr), PG (X.blk s H scope (compEnvC scope cl C X.env) fp) tg g)
    (ht : ∀ (s : Shared) (H : Hp) (C : Addr) (cl : List (Str × Addr)) (fp : List Addr), PTs (X.blk s H scope (compEnvC scope cl C X.env) fp) ifs tt)
    (hk : ∀ (s : Shared) (H : Hp) (C : Addr) (cl : List (Str × Addr)) (fp : List Addr), PE (X.blk s H scope (compEnvC scope cl C X.env) fp) kx tk)
    (hv : ∀ (s : Shared) (H : Hp) (C : Addr) (cl : List (Str × Addr)) (fp : List Addr), PE (X.blk s H scope (compEnvC scope cl C X.env) fp) vx tv) (hs : ∀ x, foldedSetIterable iter X.env x = pure x := by intro _; rfl) :
    PS X (.Assign [.Name y py] (.DictComp kx vx [⟨tg, iter, ifs, 0⟩] scope pos) spos) (tAsg (tDcO o wi g tt (fun D => tbPut D tk tv) (own.map (·.2))) (gName i)) := by
  refine ⟨fun pins s σ H D I h => ?_⟩
  have h : tDcO o wi g tt (fun D => tbPut D tk tv) (own.map (·.2)) σ H (fun x H1 => gName i x σ H1 D.nx) := h
  rw [exec_Assign_Name_used _ _ _ _ hsw]
  refine wpAny_bind (wpAny_standAt (wpAny_bind ?_))
  show wpAny _ X.A (do let _ ← comprehension (.DictComp kx vx [⟨tg, iter, ifs, 0⟩] scope pos) scope X.env (firstIterPos [⟨tg, iter, ifs, 0⟩] pos) newDict false (eval iter X.env) (some (assign (.Name y py) X.env))) _ _ s
  refine wpAny_bind (thn (dco_core (Qf := fun _ s' => SP X pins D .next s') (m := fun D env => putK' kx vx D env) ho hc hN I hi ok hg ht
    (fun s H C cl fp D => pb_put (Y := X.blk s H scope (compEnvC scope cl C X.env) fp) rfl hu (hk s H C cl fp) (hv s H C cl fp)) (fun it D env => turn_d1 kx vx tg iter ifs scope pos (.ref it) D env) hs h fun L C s' m H' I' q hn f => ?_) fun _ s' hq => wpAny_pure (wpAny_pure hq))
  show wpAny _ _ (assign (.Name y py) X.env (.ref L)) _ _ _
  refine wpAny_assign_Name (store_ok2 (v := V.ref L) I' hN hy (.inl hyl) rfl (fun s2 I2 ⟨a, sb, ha⟩ => ?_) (.inr hyl))
  obtain ⟨k0, k1, k2, k3, k4, k5⟩ := f
  have ne : C ≠ a := ha.elim (fun z => by rw [z]; exact k1) fun z e => k4 y a z e.symm
  exact ⟨m, hn.sameBut sb ne, fun h3 sb3 => ⟨_, H', I2.turned (t' := s2.toks) (fun b u nb eb => (sb3.2 b nb).trans eb) k0 k1 k3 k4 k5, q⟩⟩
theorem swd_true {kx vx : Expr} {gs : List Comprehension} {scope : Scope} {pos py : Pos} {y : Str} {l : Nat} {env : Env} (hk : env.scope.kind = .function) (hy : env.scope.names.lookup y = some .local) (hl : (py.line == pos.line) = true)
    (ha : (scope.names.any fun (n, k) => n == y && (k == .local || k == .cell)) = false) : swapsWith (.DictComp kx vx gs scope pos) (some (.Name y py)) l env = pure true := by
  have e1 : env.kindOf y = some .local := hy
  have e2 : env.blockKind = .function := by
    unfold Env.blockKind
    rw [hk]
    rfl
  unfold swapsWith
  simp only [e2, e1, ha, Expr.pos, hl]
  rfl
end
end Rw
set_option Elab.async false
set_option linter.all false
set_option maxRecDepth 100000
set_option maxHeartbeats 4000000
namespace Rw
open PySem PySem.Spec PyProof.Rows L2
namespace EnF
theorem no_len : typeLookup (.type "enumerate") "__len__" = pure none := by rw [typeLookup_type, builtinLookup_eq_fast]; kernel_rfl
theorem no_hint : typeLookup (.type "enumerate") "__length_hint__" = pure none := by rw [typeLookup_type, builtinLookup_eq_fast]; kernel_rfl
end EnF
theorem alive_ok {M : Model} {A : Around} {E : Value → Shared → Prop} {s : Shared} {a : Addr} {Q : Option Obj → Shared → Prop} (h : Q (s.heap.get? a) s) : wpAny M A (loadIfAlive a) Q E s := fun _ _ _ => h
/-- an enumerate whose last pair is still held -/
abbrev EnHeld (h : Heap) (e it : Addr) (i : Int) (T : Addr) (b : Bool) (x : Value) : Prop :=
  h.get? e = some { cls := .type "enumerate", dict := none, data := .fields #[rawInt T, .bool b, .ref it, rawInt i, .none, x], slots := #[] }
def EnSt (h : Heap) (e it : Addr) (i : Int) : Prop := (∃ old, IsEnum h e it i old) ∨ ∃ T b x ob, EnHeld h e it i T b x ∧ h.get? T = some ob ∧ T ≠ e
section
variable {prog : Program} {w : World} {A : Around} {E : Value → Shared → Prop} {s : Shared}
theorem held_next {e it l T : Addr} {b : Bool} {i : Nat} {items : Array Value} {x old : Value} {ob : Obj} {Q : Value → Shared → Prop}
    (he : EnHeld s.heap e it i T b old) (hT : s.heap.get? T = some ob) (hTe : T ≠ e) (hTi : T ≠ it) (hit : s.heap.IsListIter it l i) (hl : s.heap.IsList l items) (hx : items[i]? = some x) (hne : e ≠ it)
    (hQ : ∀ h' b', EnHeld h' e it ((i : Int) + 1) T b' old → h'.IsListIter it l (i + 1) → h'.get? s.heap.objs.size = some { cls := .type "tuple", data := .seq #[.int i s.toks, x] } → h'.objs.size = s.heap.objs.size + 1 →
      (∀ c o, c ≠ e → c ≠ it → s.heap.get? c = some o → h'.get? c = some o) → Q (.ref s.heap.objs.size) { s with heap := h', toks := s.toks + 1 }) :
    wpAny (model prog w) A (Builtin.«enumerate.__next__» ⟨[.ref e], []⟩) (fun fin s' => ∃ v, fin = .done (.ret v) ∧ Q v s') E s := by
  obtain ⟨hp, g, d, tk, os⟩ := s
  show wpAny _ _ (field (.ref e) 2 >>= _) _ _ _
  refine wpAny_bind (wpAny_field he rfl (x := .ref it) rfl ?_)
  refine wpAny_bind (wpAny_nextOf_list_item hit hl hx fun h1 it1 s1 => ?_)
  have s1 : Heap.SameBut it hp h1 := s1
  have e1 : EnHeld h1 e it i T b old := (s1.2 e hne).trans he
  show wpAny _ _ (field (.ref e) 3 >>= _) _ _ ⟨h1, g, d, tk, os⟩
  refine wpAny_bind (wpAny_field e1 rfl (x := rawInt i) rfl ?_)
  show wpAny _ _ (field (.ref e) 4 >>= _) _ _ ⟨h1, g, d, tk, os⟩
  refine wpAny_bind (wpAny_field e1 rfl (x := .none) rfl ?_)
  show wpAny _ _ (mkInt i >>= _) _ _ ⟨h1, g, d, tk, os⟩
  refine wpAny_bind (wpAny_mkInt ?_)
  show wpAny _ _ (setField (.ref e) 3 (rawInt ((i : Int) + 1)) >>= _) _ _ ⟨h1, g, d, tk + 1, os⟩
  refine wpAny_bind (wpAny_setField_rec e1 (by simp) fun h2 e2 s2 => ?_)
  have s2 : Heap.SameBut e h1 h2 := s2
  have e2 : EnHeld h2 e it ((i : Int) + 1) T b old := e2
  show wpAny _ _ (setField (.ref e) 4 .none >>= _) _ _ ⟨h2, g, d, tk + 1, os⟩
  refine wpAny_bind (wpAny_setField_rec e2 (by simp) fun h3 e3 s3 => ?_)
  have s3 : Heap.SameBut e h2 h3 := s3
  have e3 : EnHeld h3 e it ((i : Int) + 1) T b old := e3
  show wpAny _ _ (newTuple [.int i tk, x] >>= _) _ _ ⟨h3, g, d, tk + 1, os⟩
  refine wpAny_bind (wpAny_newTuple ?_)
  have sz : h3.objs.size = hp.objs.size := by rw [s3.1, s2.1, s1.1]
  have kk : ∀ c o, c ≠ e → c ≠ it → hp.get? c = some o → (h3.push { cls := .type "tuple", data := .seq #[.int i tk, x] }).get? c = some o := fun c o c1 c2 hc =>
    Heap.get?_push_of_some _ (s3.extBut c o c1 (s2.extBut c o c1 (s1.extBut c o c2 hc)))
  have e4 : EnHeld (h3.push { cls := .type "tuple", data := .seq #[.int i tk, x] }) e it ((i : Int) + 1) T b old := Heap.get?_push_of_some _ e3
  have t4 : (h3.push { cls := .type "tuple", data := .seq #[.int i tk, x] }).get? hp.objs.size = some { cls := .type "tuple", data := .seq #[.int i tk, x] } := by rw [← sz]; exact Heap.get?_push_size _ rfl
  have z4 : (h3.push { cls := .type "tuple", data := .seq #[.int i tk, x] }).objs.size = hp.objs.size + 1 := by rw [Heap.size_push, sz]
  have l4 : (h3.push { cls := .type "tuple", data := .seq #[.int i tk, x] }).IsListIter it l (i + 1) := by
    obtain ⟨o, ho, r⟩ := (it1.extBut s2.extBut (Ne.symm hne)).extBut s3.extBut (Ne.symm hne)
    exact ⟨o, Heap.get?_push_of_some _ ho, r⟩
  have T4 := kk T ob hTe hTi hT
  have el : e < hp.objs.size := Heap.lt_size he
  rw [sz]
  generalize h3.push { cls := .type "tuple", data := .seq #[.int i tk, x] } = h4 at kk e4 t4 z4 l4 T4
  show wpAny _ _ (Builtin.SmallTypes.ownedTupleIsFree (.ref e) >>= _) _ _ ⟨h4, g, d, tk + 1, os⟩
  refine wpAny_bind ?_
  unfold Builtin.SmallTypes.ownedTupleIsFree
  refine wpAny_bind (wpAny_field e4 rfl (x := rawInt T) rfl ?_)
  refine wpAny_bind (alive_ok ?_)
  have T4' : h4.get? (Int.toNat (T : Int)) = some ob := by rw [Int.toNat_natCast]; exact T4
  dsimp only [Int.ofNat_eq_natCast]
  rw [T4']
  simp only [Option.isNone_some, Bool.false_eq_true, if_false]
  refine wpAny_bind (wpAny_field e4 rfl (x := .bool b) rfl ?_)
  have fin : ∀ (h' : Heap) (b' : Bool), EnHeld h' e it ((i : Int) + 1) T b' old → Heap.SameBut e h4 h' → Q (.ref hp.objs.size) ⟨h', g, d, tk + 1, os⟩ := fun h' b' e5 s5 =>
    hQ h' b' e5 (l4.extBut s5.extBut (Ne.symm hne)) (s5.extBut _ _ (Nat.ne_of_gt el) t4) (by rw [s5.1, z4]) fun c o c1 c2 hc => s5.extBut c o c1 (kk c o c1 c2 hc)
  cases b with
  | true =>
    rw [if_neg (by decide)]
    refine wpAny_pure ?_
    rw [if_neg Bool.false_ne_true]
    exact wpAny_pure ⟨_, rfl, fin h4 true e4 (Heap.SameBut.refl _ _)⟩
  | false =>
    rw [if_pos (by decide)]
    refine wpAny_bind (wpAny_setField_rec e4 (by simp) fun h5 e5 s5 => wpAny_pure ?_)
    rw [if_neg Bool.false_ne_true]
    exact wpAny_pure ⟨_, rfl, fin h5 true e5 s5⟩
theorem en_next {e it l : Addr} {i : Nat} {items : Array Value} {x : Value} {Q : Option Value → Shared → Prop} (he : EnSt s.heap e it i) (ha : ∀ T b x, EnHeld s.heap e it i T b x → T ≠ it) (hit : s.heap.IsListIter it l i) (hl : s.heap.IsList l items) (hx : items[i]? = some x) (hne : e ≠ it)
    (hQ : ∀ h' T b y, EnHeld h' e it ((i : Int) + 1) T b y → (T = s.heap.objs.size ∨ ∃ b y, EnHeld s.heap e it i T b y) → h'.IsListIter it l (i + 1) → h'.get? s.heap.objs.size = some { cls := .type "tuple", data := .seq #[.int i s.toks, x] } → h'.objs.size = s.heap.objs.size + 1 →
      (∀ c o, c ≠ e → c ≠ it → s.heap.get? c = some o → h'.get? c = some o) → Q (some (.ref s.heap.objs.size)) { s with heap := h', toks := s.toks + 1 }) :
    wpAny (model prog w) A (pyNext (.ref e)) Q E s := by
  rcases he with ⟨old, he⟩ | ⟨T, b, y, ob, he, hT, hTe⟩
  · exact wpAny_pyNext_enum_item he hit hl hx hne fun h' a1 a2 a3 a4 a5 => hQ h' _ _ _ a1 (.inl rfl) a2 a3 a4 a5
  · have hty : s.TypeIs (.ref e) "enumerate" := ⟨_, he, rfl⟩
    unfold pyNext
    exact wpAny_bind (wpAny_attempt (wpAny_callSpecial?_slot (name := Str.ofString "__next__") hty F.slot_enumerate_next
      (wpAny_call_entry F.slot_enumerate_next hty F.entry_enumerate_next
        (held_next he hT hTe (ha _ _ _ he) hit hl hx hne fun h' b' a1 a2 a3 a4 a5 => wpAny_pure (hQ h' _ _ _ a1 (.inr ⟨_, _, he⟩) a2 a3 a4 a5)) (F.args_enumerate_next_1 _))))
theorem en_end {e it l : Addr} {i : Nat} {items : Array Value} {Q : Option Value → Shared → Prop} (hh : A.handled = none) (he : EnSt s.heap e it i) (hit : s.heap.IsListIter it l i) (hl : s.heap.IsList l items) (hx : items[i]? = none)
    (hQ : ∀ h', Heap.ExtBut it s.heap h' → Q none { s with heap := h' }) : wpAny (model prog w) A (pyNext (.ref e)) Q E s := by
  rcases he with ⟨old, he⟩ | ⟨T, b, y, ob, he, _, _⟩
  · exact wpAny_pyNext_enum_end hh he hit hl hx hQ
  · have hty : s.TypeIs (.ref e) "enumerate" := ⟨_, he, rfl⟩
    unfold pyNext
    refine wpAny_bind (wpAny_attempt (wpAny_callSpecial?_slot (name := Str.ofString "__next__") hty F.slot_enumerate_next
      (wpAny_call_entry F.slot_enumerate_next hty F.entry_enumerate_next ?_ (F.args_enumerate_next_1 _))))
    show wpAny _ _ (field (.ref e) 2 >>= _) _ _ _
    refine wpAny_bind (wpAny_field he rfl (x := .ref it) rfl ?_)
    refine wpAny_bind (wpAny_nextOf_list_end hh hit hl hx fun h' x he' hx' => ?_)
    obtain ⟨o, ho, hc⟩ := hx'
    exact wpAny_bind (wpAny_isInstance (T := "StopIteration") (b := true) ⟨o, ho, hc⟩ isSubtype_stop (wpAny_pure (hQ _ he')))
end
end Rw
set_option Elab.async false
set_option linter.all false
set_option maxRecDepth 100000
set_option maxHeartbeats 4000000
namespace Rw
open PySem PySem.Spec PyProof.Rows L2
/-- the pairs laid so far, from base on -/
structure EnG (base : Addr) (items : Array Value) (h : Heap) (as : List Addr) : Prop where
  up : as.Pairwise (· < ·)
  low : ∀ a ∈ as, base ≤ a ∧ a < h.objs.size
  at' : ∀ (j : Nat) (a : Addr), as[j]? = some a → ∃ t v, items[j]? = some v ∧ h.get? a = some { cls := .type "tuple", data := .seq #[.int j t, v] }
theorem EnG.keep {base : Addr} {items : Array Value} {h h' : Heap} {as : List Addr} (g : EnG base items h as) (k : ∀ b o, base ≤ b → h.get? b = some o → h'.get? b = some o) (hz : h.objs.size ≤ h'.objs.size) : EnG base items h' as :=
  ⟨g.up, fun a ha => ⟨(g.low a ha).1, Nat.lt_of_lt_of_le (g.low a ha).2 hz⟩, fun j a e => let ⟨t, v, h1, h2⟩ := g.at' j a e; ⟨t, v, h1, k a _ (g.low a (List.mem_of_getElem? e)).1 h2⟩⟩
theorem EnG.snoc {base : Addr} {items : Array Value} {h : Heap} {as : List Addr} {a : Addr} {t : Nat} {v : Value} (g : EnG base items h as) (hb : base ≤ a) (hz : a < h.objs.size) (hl : ∀ b ∈ as, b < a) (hv : items[as.length]? = some v)
    (ha : h.get? a = some { cls := .type "tuple", data := .seq #[.int as.length t, v] }) : EnG base items h (as ++ [a]) := by
  refine ⟨List.pairwise_append.mpr ⟨g.up, List.pairwise_singleton _ _, fun x hx y hy => ?_⟩, fun x hx => ?_, fun j x e => ?_⟩
  · rw [List.mem_singleton.mp hy]
    exact hl x hx
  · rcases List.mem_append.mp hx with hx | hx
    · exact g.low x hx
    · rw [List.mem_singleton.mp hx]
      exact ⟨hb, hz⟩
  · rcases Nat.lt_trichotomy j as.length with hj | hj | hj
    · rw [List.getElem?_append_left hj] at e
      exact g.at' j x e
    · subst hj
      rw [List.getElem?_append_right (Nat.le_refl _), Nat.sub_self] at e
      cases e
      exact ⟨t, v, hv, ha⟩
    · rw [List.getElem?_eq_none (by rw [List.length_append, List.length_singleton]; omega)] at e
      cases e
def EL (base : Addr) (h : Heap) (e it : Addr) (i : Int) : Prop := (∃ old, IsEnum h e it i old) ∨ ∃ T b x ob, EnHeld h e it i T b x ∧ h.get? T = some ob ∧ base ≤ T
section
variable {prog : Program} {w : World} {A : Around} {R : Result → Shared → Prop} {s : Shared}
theorem held_same {h : Heap} {e it : Addr} {i i' : Int} {T T' : Addr} {b b' : Bool} {x x' : Value} (h1 : EnHeld h e it i T b x) (h2 : EnHeld h e it i' T' b' x') : T = T' := by
  unfold EnHeld at h1 h2
  rw [h1] at h2
  have h3 := Option.some.inj h2
  have h4 : (#[rawInt T, .bool b, .ref it, rawInt i, .none, x] : Array Value) = #[rawInt T', .bool b', .ref it, rawInt i', .none, x'] := by injection h3 with _ _ h5 _; injection h5
  have h5 := congrArg (fun a => a[0]?) h4
  have h6 : rawInt T = rawInt T' := Option.some.inj h5
  unfold rawInt at h6
  injection h6 with h7 _
  exact_mod_cast h7
theorem not_held {h : Heap} {e it : Addr} {i i' : Int} {T : Addr} {b : Bool} {x old : Value} (h1 : IsEnum h e it i old) (h2 : EnHeld h e it i' T b x) : False := by
  unfold EnHeld at h2
  unfold IsEnum at h1
  rw [h1] at h2
  have h3 := Option.some.inj h2
  have h4 : (#[.none, .bool false, .ref it, rawInt i, .none, old] : Array Value) = #[rawInt T, .bool b, .ref it, rawInt i', .none, x] := by injection h3 with _ _ h5 _; injection h5
  have h5 := congrArg (fun a => a[0]?) h4
  have h6 : Value.none = rawInt T := Option.some.inj h5
  unfold rawInt at h6
  cases h6
theorem en_loop {S e it l base : Addr} (hh : A.handled = none) (hSe : S ≠ e) (hSi : S ≠ it) (hSl : S ≠ l) (hle : l ≠ e) (hli : l ≠ it) (hei : e ≠ it) (bS : S < base) (be : e < base) (bi : it < base) (items : Array Value) (hn : items.size ≤ sizeLine) (res : Value) {h1 : Heap}
    (hR : ∀ h' tk acc c as, (∀ b o, b ≠ S → b ≠ e → b ≠ it → h1.get? b = some o → h'.get? b = some o) → h'.get? S = some { cls := .type "list", dict := none, data := .seq acc c, slots := #[] } → as.length = items.size → EnG base items h' as →
      acc.toList = as.map Value.ref → R (.ok (.ret res)) { s with heap := h', toks := tk }) :
    ∀ (k i : Nat) (h : Heap) (tk c : Nat) (acc : Array Value) (as : List Addr), items.size - i = k → i ≤ items.size → EL base h e it i → h.IsListIter it l i → h.IsList l items → (∀ b o, b ≠ S → b ≠ e → b ≠ it → h1.get? b = some o → h.get? b = some o) →
      h.get? S = some { cls := .type "list", dict := none, data := .seq acc c, slots := #[] } → acc.toList = as.map Value.ref → as.length = i → EnG base items h as → base ≤ h.objs.size →
      codeAny (model prog w) A (.builtin "list.extend.loop" ⟨[.ref S, .ref e, res], []⟩) R { s with heap := h, toks := tk } := by
  intro k
  induction k with
  | zero =>
    intro i h tk c acc as hk hi he hit hl kp hS hacc has hG hb
    have hin : i = items.size := by omega
    subst hin
    refine codeAny_builtin F.entry_extend_loop ?_
    rw [Around.under_plainId F.plain_extend_loop _]
    show wpAny _ A.in1 (pyNext (.ref e) >>= _) _ _ _
    have he' : EnSt h e it items.size := he.elim .inl fun ⟨T, b, x, ob, z1, z2, z3⟩ => .inr ⟨T, b, x, ob, z1, z2, Nat.ne_of_gt (Nat.lt_of_lt_of_le be z3)⟩
    refine wpAny_bind (en_end (s := { s with heap := h, toks := tk }) (A := A.in1) hh he' hit hl (Array.getElem?_eq_none (Nat.le_refl _)) fun h' eb => ?_)
    refine wpAny_pure (hR h' tk acc c as (fun b o b1 b2 b3 eo => eb b o b3 (kp b o b1 b2 b3 eo)) (eb S _ hSi hS) has ?_ hacc)
    refine ⟨hG.up, fun a ha => ?_, fun j a ej => ?_⟩
    · obtain ⟨z1, z2⟩ := hG.low a ha
      obtain ⟨j, hj⟩ := List.mem_iff_getElem?.mp ha
      obtain ⟨t, v, _, q⟩ := hG.at' j a hj
      exact ⟨z1, Heap.lt_size (eb a _ (Nat.ne_of_gt (Nat.lt_of_lt_of_le bi z1)) q)⟩
    · obtain ⟨t, v, q1, q2⟩ := hG.at' j a ej
      exact ⟨t, v, q1, eb a _ (Nat.ne_of_gt (Nat.lt_of_lt_of_le bi (hG.low a (List.mem_of_getElem? ej)).1)) q2⟩
  | succ k ih =>
    intro i h tk c acc as hk hi he hit hl kp hS hacc has hG hb
    have hlt : i < items.size := by omega
    have hx : items[i]? = some items[i] := Array.getElem?_eq_getElem hlt
    have hsz : acc.size = i := by rw [← Array.length_toList, hacc, List.length_map, has]
    refine codeAny_builtin F.entry_extend_loop ?_
    rw [Around.under_plainId F.plain_extend_loop _]
    show wpAny _ A.in1 (pyNext (.ref e) >>= _) _ _ _
    have he' : EnSt h e it i := he.elim .inl fun ⟨T, b, x, ob, z1, z2, z3⟩ => .inr ⟨T, b, x, ob, z1, z2, Nat.ne_of_gt (Nat.lt_of_lt_of_le be z3)⟩
    have hT0 : ∀ T b x, EnHeld h e it i T b x → base ≤ T ∧ ∃ ob, h.get? T = some ob := fun T b x hT => by
      rcases he with ⟨old, z⟩ | ⟨T', b', x', ob, z1, z2, z3⟩
      · exact (not_held z hT).elim
      · rw [held_same hT z1]
        exact ⟨z3, ob, z2⟩
    refine wpAny_bind (en_next (s := { s with heap := h, toks := tk }) (A := A.in1) he' (fun T b x hT => Nat.ne_of_gt (Nat.lt_of_lt_of_le bi (hT0 T b x hT).1)) hit hl hx hei fun h' T b y a1 a2 a3 a4 a5 a6 => ?_)
    have a4 : h'.get? h.objs.size = some { cls := .type "tuple", data := .seq #[.int i tk, items[i]] } := a4
    have a5 : h'.objs.size = h.objs.size + 1 := a5
    have a6 : ∀ c o, c ≠ e → c ≠ it → h.get? c = some o → h'.get? c = some o := a6
    have hS' := a6 S _ hSe hSi hS
    have up : ∀ b o, b ≠ S → h'.get? b = some o → (h'.update S (Obj.mapSeq (·.push (Value.ref h.objs.size)))).get? b = some o := fun b o hb e => (Heap.get?_update_other _ _ (Ne.symm hb)).trans e
    have usz : (h'.update S (Obj.mapSeq (·.push (Value.ref h.objs.size)))).objs.size = h.objs.size + 1 := by rw [(Heap.SameBut.update ..).1, a5]
    have hbT : base ≤ T ∧ ∃ ob, h'.get? T = some ob := by
      rcases a2 with z | ⟨b0, y0, z⟩
      · rw [show T = h.objs.size from z]
        exact ⟨hb, _, a4⟩
      · obtain ⟨q1, ob, q2⟩ := hT0 T b0 y0 z
        exact ⟨q1, ob, a6 T ob (Nat.ne_of_gt (Nat.lt_of_lt_of_le be q1)) (Nat.ne_of_gt (Nat.lt_of_lt_of_le bi q1)) q2⟩
    show wpAny _ A.in1 (updateSeq S (·.push (Value.ref h.objs.size)) >>= _) _ _ _
    refine wpAny_bind ?_
    refine wpAny_updateSeq hS' rfl (wpAny_pure ⟨plainId_quiet F.plain_extend_loop _, ih (i + 1) _ _ _ (acc.push (Value.ref h.objs.size)) (as ++ [h.objs.size]) (by omega) hlt ?_ (a3.at fun o q => up it o (Ne.symm hSi) q) (hl.at fun o q => up l o (Ne.symm hSl) (a6 l o hle hli q))
      (fun b o b1 b2 b3 eo => up b o b1 (a6 b o b2 b3 (kp b o b1 b2 b3 eo))) (Heap.get?_update_self _ hS' rfl) (by rw [Array.toList_push, hacc, List.map_append]; rfl) (by rw [List.length_append, has]; rfl) ?_ (by rw [usz]; exact Nat.le_succ_of_le hb)⟩) (by rw [hsz]; omega) (by show (acc.push (Value.ref h.objs.size)).size ≤ sizeLine + 1; rw [Array.size_push, hsz]; omega)
    · obtain ⟨ob, q⟩ := hbT.2
      refine .inr ⟨T, b, y, ob, ?_, up T ob (Nat.ne_of_gt (Nat.lt_of_lt_of_le bS hbT.1)) q, hbT.1⟩
      have e1 : ((i + 1 : Nat) : Int) = (i : Int) + 1 := by omega
      rw [e1]
      exact up e _ (Ne.symm hSe) a1
    · have g2 : EnG base items (h'.update S (Obj.mapSeq (·.push (Value.ref h.objs.size)))) as := hG.keep (fun b o b1 q => up b o (Nat.ne_of_gt (Nat.lt_of_lt_of_le bS b1)) (a6 b o (Nat.ne_of_gt (Nat.lt_of_lt_of_le be b1)) (Nat.ne_of_gt (Nat.lt_of_lt_of_le bi b1)) q)) (by rw [usz]; exact Nat.le_succ _)
      exact g2.snoc (t := tk) (v := items[i]) hb (by rw [usz]; exact Nat.lt_succ_self _) (fun b hb' => (hG.low b hb').2) (by rw [has]; exact hx) (up _ _ (Nat.ne_of_gt (Nat.lt_of_lt_of_le bS hb)) (by rw [has]; exact a4))
end
end Rw
set_option Elab.async false
set_option linter.all false
set_option maxRecDepth 100000
set_option maxHeartbeats 4000000
namespace Rw
open PySem PySem.Spec PyProof.Rows L2
section
variable {prog : Program} {w : World} {A : Around} {E : Value → Shared → Prop} {s : Shared}
theorem call_listEnum {e it l : Addr} {old : Value} {items : Array Value} {Q : Value → Shared → Prop} (hh : A.handled = none) (he : IsEnum s.heap e it 0 old) (hit : s.heap.IsListIter it l 0) (hl : s.heap.IsList l items) (hei : e ≠ it) (hle : l ≠ e) (hli : l ≠ it) (hn : items.size ≤ sizeLine)
    (hQ : ∀ h' tk acc c as, (∀ b o, b ≠ e → b ≠ it → s.heap.get? b = some o → h'.get? b = some o) → h'.get? s.heap.objs.size = some { cls := .type "list", dict := none, data := .seq acc c, slots := #[] } → as.length = items.size → EnG (s.heap.objs.size + 1) items h' as →
      acc.toList = as.map Value.ref → Q (.ref s.heap.objs.size) { s with heap := h', toks := tk }) :
    wpAny (model prog w) A (call (.type "list") [.ref e]) Q E s := by
  refine callType_codes (Q₁ := fun obj s₁ => obj = .ref s.heap.objs.size ∧ s₁ = { s with heap := s.heap.push { cls := .type "list", data := .seq #[] } }) F.called_list (F.typeCall_list_1 _) F.entry_list_init (code_list_new _ ⟨rfl, rfl⟩) fun obj s₁ h₁ => ?_
  obtain ⟨rfl, rfl⟩ := h₁
  generalize hS0 : s.heap.objs.size = S at hQ ⊢
  have lo : ∀ b o, s.heap.get? b = some o → b < S := fun b o q => by rw [← hS0]; exact Heap.lt_size q
  have be := lo _ _ he
  have bi : it < S := let ⟨o, ho, _⟩ := hit; lo _ _ ho
  have bl : l < S := let ⟨o, ho, _⟩ := hl; lo _ _ ho
  have kp0 : ∀ b o, s.heap.get? b = some o → (s.heap.push { cls := .type "list", data := .seq #[] }).get? b = some o := fun b o q => Heap.get?_push_of_some _ q
  have hS : (s.heap.push { cls := .type "list", data := .seq #[] }).get? S = some { cls := .type "list", data := .seq #[] } := by rw [← hS0]; exact Heap.get?_push_size _ rfl
  have hz : (s.heap.push { cls := .type "list", data := .seq #[] }).objs.size = S + 1 := by rw [Heap.size_push, hS0]
  generalize hh0 : s.heap.push { cls := .type "list", data := .seq #[] } = h0 at kp0 hS hz
  refine ⟨⟨_, hS, rfl⟩, F.args_list_init_2 _ _, ?_⟩
  show wpAny _ _ (do let old ← Builtin.List.listItems (.ref S); Builtin.List.listUpdate (.ref S) (fun _ => #[]); letGo old.toList.reverse; Builtin.List.listExtendWith (.ref S) (.ref e) .none) _ _ _
  refine wpAny_bind ?_
  unfold Builtin.List.listItems
  refine wpAny_bind (wpAny_seqItems hS rfl (wpAny_pure ?_))
  show wpAny _ _ (updateSeq S (fun _ => #[]) >>= fun _ => letGo (#[] : Array Value).toList.reverse >>= fun _ => Builtin.List.listExtendWith (.ref S) (.ref e) .none) _ _ _
  refine wpAny_bind (wpAny_updateSeq hS rfl ?_)
  have hS1 := Heap.get?_update_self (Obj.mapSeq (fun _ => (#[] : Array Value))) hS rfl
  have kp1 : ∀ b o, b ≠ S → h0.get? b = some o → (h0.update S (Obj.mapSeq (fun _ => (#[] : Array Value)))).get? b = some o := fun b o hb q => (Heap.get?_update_other _ _ (Ne.symm hb)).trans q
  have hz1 : (h0.update S (Obj.mapSeq (fun _ => (#[] : Array Value)))).objs.size = S + 1 := by rw [(Heap.SameBut.update ..).1, hz]
  generalize h0.update S (Obj.mapSeq (fun _ => (#[] : Array Value))) = g at hS1 kp1 hz1
  refine wpAny_bind (wpAny_letGo ?_)
  have keep : ∀ b o, s.heap.get? b = some o → g.get? b = some o := fun b o q => kp1 b o (Nat.ne_of_lt (lo b o q)) (kp0 b o q)
  have he1 : IsEnum g e it 0 old := keep _ _ he
  have hit1 : g.IsListIter it l 0 := hit.at fun o q => keep _ o q
  have hl1 : g.IsList l items := hl.at fun o q => keep _ o q
  unfold Builtin.List.listExtendWith
  have hty : ({ s with heap := g } : Shared).TypeIs (.ref e) "enumerate" := ⟨_, he1, rfl⟩
  refine wpAny_bind (wpAny_typeOf hty ?_)
  have c1 : Builtin.List.listSameRef (.ref S) (.ref e) = false := by simp [Builtin.List.listSameRef, Nat.ne_of_gt be]
  have c2 : (Value.type "enumerate" == Value.type "list") = false := by decide
  have c3 : (Value.type "enumerate" == Value.type "tuple") = false := by decide
  simp only [c1, c2, c3, Bool.or_false, Bool.false_eq_true, if_false]
  refine wpAny_bind (wpAny_pyIter_enum he1 ?_)
  refine wpAny_bind (wpAny_holding ?_)
  unfold Builtin.List.listLengthHint
  refine wpAny_bind (wpAny_specialOf hty EnF.no_len ?_)
  show wpAny _ _ (specialOf (Value.ref e) (Str.ofString "__length_hint__") >>= _) _ _ _
  refine wpAny_bind (wpAny_specialOf hty EnF.no_hint ?_)
  refine wpAny_pure ?_
  have loop : ∀ (h : Heap) (c : Nat), (∀ b o, b ≠ S → g.get? b = some o → h.get? b = some o) → h.objs.size = S + 1 → h.get? S = some { cls := .type "list", dict := none, data := .seq #[] c, slots := #[] } →
      codeAny (model prog w) A.in1 (.builtin "list.extend.loop" ⟨[.ref S, .ref e, .none], []⟩) (wants (fun r s2 => r = .none ∧ Q (.ref S) s2) E) { s with heap := h } := fun h c kp hz2 hS2 => by
    refine en_loop (prog := prog) (w := w) (A := A.in1) (R := wants (fun r s2 => r = .none ∧ Q (.ref S) s2) E) (s := s) (S := S) (it := it) (l := l) (base := S + 1) (h1 := s.heap) hh (Nat.ne_of_gt be) (Nat.ne_of_gt bi) (Nat.ne_of_gt bl) hle hli hei (Nat.lt_succ_self _) (Nat.lt_succ_of_lt be) (Nat.lt_succ_of_lt bi) items hn .none
      (fun h' tk acc c as k1 k2 k3 k4 k5 => ⟨rfl, hQ h' tk acc c as (fun b o b1 b2 q => k1 b o (Nat.ne_of_lt (lo b o q)) b1 b2 q) k2 k3 k4 k5⟩) items.size 0 h s.toks c #[] [] (Nat.sub_zero _) (Nat.zero_le _) (.inl ⟨old, kp e _ (Nat.ne_of_lt be) he1⟩)
      (hit1.at fun o q => kp it o (Nat.ne_of_lt bi) q) (hl1.at fun o q => kp l o (Nat.ne_of_lt bl) q) (fun b o b1 _ _ q => kp b o b1 (keep b o q)) hS2 rfl rfl ⟨List.Pairwise.nil, (fun a ha => nomatch ha), (fun j a q => by simp at q)⟩ (Nat.le_of_eq hz2.symm)
  refine wpAny_ite_split (fun _ => ?_) (fun _ => wpAny_pure ⟨plainId_quiet F.plain_extend_loop _, loop g _ (fun b o _ q => q) hz1 hS1⟩)
  refine wpAny_bind (wpAny_rule ?_)
  refine wpAny_bind ?_
  show wpAny _ _ (updateSeq S (·.push .none) >>= fun _ => updateSeq S (·.pop)) _ _ _
  refine wpAny_bind (wpAny_updateSeq hS1 rfl ?_)
  have hS2 := Heap.get?_update_self (Obj.mapSeq (·.push Value.none)) hS1 rfl
  refine wpAny_updateSeq (hz := by seq_fits) hS2 rfl ?_
  have hS3 := Heap.get?_update_self (Obj.mapSeq (·.pop)) hS2 rfl
  exact wpAny_pure ⟨plainId_quiet F.plain_extend_loop _, loop _ _ (fun b o hb q => (Heap.get?_update_other _ _ (Ne.symm hb)).trans ((Heap.get?_update_other _ _ (Ne.symm hb)).trans q)) (by rw [(Heap.SameBut.update ..).1, (Heap.SameBut.update ..).1, hz1]) hS3⟩
end
end Rw
set_option Elab.async false
set_option linter.all false
set_option maxRecDepth 100000
set_option maxHeartbeats 4000000
namespace Rw
open PySem PySem.Spec PyProof.Rows L2
/-! ### several new things at once -/
def layAll : Hp → List (Addr × HO) → Hp
  | H, [] => H
  | H, (a, o) :: r => layAll (upd H a o) r
theorem layAll_off {b : Addr} : ∀ {l : List (Addr × HO)} {H : Hp}, (∀ q ∈ l, q.1 ≠ b) → layAll H l b = H b
  | [], _, _ => rfl
  | (a, o) :: r, H, h => by
    show layAll (upd H a o) r b = H b
    rw [layAll_off fun q hq => h q (List.mem_cons_of_mem _ hq), upd_ne (Ne.symm (h (a, o) List.mem_cons_self))]
theorem layAll_at {a : Addr} {o : HO} : ∀ {l : List (Addr × HO)} {H : Hp}, (l.map (·.1)).Nodup → (a, o) ∈ l → layAll H l a = some o
  | (c, u) :: r, H, hn, h => by
    have hn' := List.nodup_cons.mp hn
    show layAll (upd H c u) r a = some o
    rcases List.mem_cons.mp h with e | h
    · cases e
      rw [layAll_off fun q hq z => hn'.1 (List.mem_map.mpr ⟨q, hq, z⟩), upd_same]
    · exact layAll_at hn'.2 h
theorem vrefs : ∀ as : List Addr, Vals (as.map V.ref) (as.map Value.ref)
  | [] => .nil
  | _ :: as => .cons rfl (vrefs as)
section
variable {X : Cx}
theorem Inv.laidAll {pins : List (Addr × Obj)} {σ : L2.St} {H : Hp} {s : Shared} {h' : Heap} {tk : Nat} {l : List (Addr × HO)} (I : Inv X pins σ H s) (hk : ∀ b o, s.heap.get? b = some o → h'.get? b = some o) (hn : (l.map (·.1)).Nodup) (hl : ∀ q ∈ l, s.heap.objs.size ≤ q.1)
    (new : ∀ q ∈ l, ObjOk X.prog X.w (layAll H l) h' q.1 q.2) : Inv X pins σ (layAll H l) { s with heap := h', toks := tk } := by
  have fresh : ∀ q ∈ l, H q.1 = none := fun q hq => I.hok.fresh (hl q hq)
  have off : ∀ b, (∀ q ∈ l, q.1 ≠ b) → layAll H l b = H b := fun b h => layAll_off h
  have kp : ∀ b u, H b = some u → layAll H l b = some u := fun b u e => by
    rw [off b fun q hq z => by rw [← z, fresh q hq] at e; cases e]
    exact e
  refine I.call' (ch := []) rfl ⟨fun b o q _ _ _ => hk b o q, fun b o q _ _ _ => ⟨o.slots, hk b o q⟩, fun b o q n _ => ?_, fun b o q _ => ⟨o, hk b o q⟩, fun b xs q => kp b _ q, fun b o u q => kp b _ q, fun b ps q => ⟨#[], by rw [kp b _ q]; simp⟩⟩ (fun b u q => ?_) I.bare fun b z => by simp at z
  · rw [off b fun p hp z => by
      have h1 := hl p hp
      rw [z] at h1
      exact absurd (Heap.lt_size q) (Nat.not_lt.mpr h1)]
    exact n
  · by_cases hb : ∃ p ∈ l, p.1 = b
    · obtain ⟨p, hp, e⟩ := hb
      subst e
      rw [layAll_at hn hp] at q
      cases q
      exact new p hp
    · rw [off b fun p hp z => hb ⟨p, hp, z⟩] at q
      exact (I.hok b u q).stay (fun d v _ y => hk d v y) (fun d y => kp d _ y) fun d xs y => kp d _ y
/-- what list(enumerate(..)) gives -/
def rListEnum (K : PySem.W.Frag) : V → Hp → VK → Prop := fun x H Q => ∃ (a : Addr) (xs : List V), x = .ref a ∧ SqL K H a xs ∧
  ∀ (H' : Hp) (p : Addr) (ts : List Addr), Same H H' → H p = none → (∀ t ∈ ts, H t = none) → H' p = some (.lst (ts.map V.ref)) → ts.length = xs.length → (∀ (j : Nat) (t : Addr), ts[j]? = some t → ∃ x, xs[j]? = some x ∧ H' t = some (.tup [.int (j : Nat), x])) → Q (.ref p) H'
def tListEnum (K : PySem.W.Frag) (te : TE) : TE := fun σ H Q => te σ H fun x H1 => rListEnum K x H1 Q
theorem pe_listEnum {e : Expr} {te : TE} {p p2 pos pos2 : Pos} (hc : X.calm = true) (he : PE X e te) (hg : Gl X "list") (hm : X.mg "list" = none) (hg2 : Gl X "enumerate") (hm2 : X.mg "enumerate" = none)
    (hs : starEach [.Call (.Name "enumerate" p2) [e] [] pos2] X.env = (false, eval (.Call (.Name "enumerate" p2) [e] [] pos2) X.env) :: starEach [] X.env := by rfl) (hs2 : starEach [e] X.env = (false, eval e X.env) :: starEach [] X.env := by rfl) :
    PE X (.Call (.Name "list" p) [.Call (.Name "enumerate" p2) [e] [] pos2] [] pos) (tListEnum X.K te) := by
  refine ⟨fun pins s σ H Q I hq => ?_⟩
  refine wpAny_Call_Name_kw (ld_blt I hg hm PyProof.Rows.boot_list ?_)
  refine PyProof.Rows.callWith_type1 ?_ hs rfl
  rw [hs]
  show wpAny _ _ (spliced ((false, eval (.Call (.Name "enumerate" p2) [e] [] pos2) X.env) :: backTo pos (starEach [] X.env))) _ _ s
  refine Calls.spliced_cons ?_
  have ha := (pa_cons he pa_nil hs2).run pos2 pins s σ H (fun vs H1 => match vs with
    | [v] => rListEnum X.K v H1 Q
    | _ => False) I hq
  refine Call_ (ld_blt I hg2 hm2 boot_enumerate (PyProof.Rows.callWith_type1 (thn ha fun us s1 ⟨vs, H1, I1, r1, q1⟩ => ?_) hs2 rfl))
  cases vs with
  | nil => exact False.elim q1
  | cons v vs =>
    cases vs with
    | cons _ _ => exact False.elim q1
    | nil =>
      obtain ⟨a, xs, ev, hS, q⟩ := q1
      subst ev
      obtain ⟨u, rfl, ru⟩ := r1.one
      cases ru
      obtain ⟨its, rv, pl, hz⟩ := I1.list hS
      have hl : xs.length = its.length := rv.length
      refine call_enumerate_list pl.isList fun h2 he2 hit2 hsz2 hk2 => ?_
      refine Calls.spliced_nil ?_
      have ltA : a < s1.heap.objs.size := let ⟨o, ho, _⟩ := pl.isList; Heap.lt_size ho
      have I2 : Inv X pins σ H1 { s1 with heap := h2 } := I1.kept (t' := s1.toks) hk2
      refine call_listEnum (s := { s1 with heap := h2 }) (I1.ok.hd hc) he2 hit2 (pl.isList.at fun o q => hk2 _ o q) (Nat.succ_ne_self _) (Nat.ne_of_lt (Nat.lt_succ_of_lt ltA)) (Nat.ne_of_lt ltA) (by rw [List.size_toArray, ← hl]; exact hz) fun h' tk acc c as kp hN has hG hacc => ?_
      dsimp only at kp hN hG
      have hN2 : h2.objs.size = s1.heap.objs.size + 2 := hsz2
      generalize hNN : h2.objs.size = N at hN hG hN2
      have kp1 : ∀ b o, s1.heap.get? b = some o → h'.get? b = some o := fun b o z => by
        have lt := Heap.lt_size z
        exact kp b o (Nat.ne_of_lt (Nat.lt_succ_of_lt lt)) (Nat.ne_of_lt lt) (hk2 b o z)
      let tup : Addr × Nat → Addr × HO := fun q => (q.1, .tup [.int (q.2 : Nat), (xs[q.2]?).getD (.int 0)])
      have hkeys : ((as.zipIdx.map tup).map (·.1)) = as := by
        rw [List.map_map]
        exact List.zipIdx_map_fst 0 as
      have mem : ∀ q ∈ as.zipIdx.map tup, ∃ j, as[j]? = some q.1 ∧ q.2 = .tup [.int (j : Nat), (xs[j]?).getD (.int 0)] := fun q hq => by
        obtain ⟨⟨t, j⟩, h1, rfl⟩ := List.mem_map.mp hq
        exact ⟨j, List.mk_mem_zipIdx_iff_getElem?.mp h1, rfl⟩
      have nd : (((N, HO.lst (as.map V.ref)) :: as.zipIdx.map tup).map (·.1)).Nodup := by
        rw [List.map_cons, hkeys]
        refine List.nodup_cons.mpr ⟨fun z => ?_, List.Pairwise.imp (fun {x y} (z : x < y) => Nat.ne_of_lt z) hG.up⟩
        exact absurd (hG.low _ z).1 (Nat.not_succ_le_self _)
      have lows : ∀ q ∈ (N, HO.lst (as.map V.ref)) :: as.zipIdx.map tup, s1.heap.objs.size ≤ q.1 := fun q hq => by
        rcases List.mem_cons.mp hq with z | z
        · rw [z, hN2]
          exact Nat.le_add_right _ _
        · obtain ⟨j, h1, _⟩ := mem q z
          refine Nat.le_trans ?_ (hG.low _ (List.mem_of_getElem? h1)).1
          rw [hN2]
          exact Nat.le_succ_of_le (Nat.le_add_right _ _)
      have at' : ∀ (j : Nat) (t : Addr), as[j]? = some t → ∃ x w tt, xs[j]? = some x ∧ RelV x w ∧ h'.get? t = some { cls := .type "tuple", data := .seq #[.int j tt, w] } := fun j t ej => by
        obtain ⟨tt, w, h1, h2⟩ := hG.at' j t ej
        have hj : j < xs.length := by
          have z := (List.getElem?_eq_some_iff.mp ej).1
          rw [has, List.size_toArray] at z
          omega
        obtain ⟨w', g1, g2⟩ := rv.get (List.getElem?_eq_getElem hj)
        have h1 : its[j]? = some w := by simpa using h1
        rw [h1] at g1
        cases g1
        exact ⟨_, w, tt, List.getElem?_eq_getElem hj, g2, h2⟩
      have I3 : Inv X pins σ (layAll H1 ((N, HO.lst (as.map V.ref)) :: as.zipIdx.map tup)) { s1 with heap := h', toks := tk } := by
        refine Rw.Inv.laidAll I1 kp1 nd lows fun q hq => ?_
        rcases List.mem_cons.mp hq with z | z
        · subst z
          refine ⟨?_, acc.toList, c, by rw [hacc]; exact vrefs as, ?_⟩
          · rw [List.length_map, has, List.size_toArray, ← hl]
            exact hz
          · rw [Array.toArray_toList]
            exact hN
        · obtain ⟨j, h1, h2⟩ := mem q z
          obtain ⟨x, w, tt, e1, e2, e3⟩ := at' j _ h1
          rw [h2, e1]
          exact ⟨by show 2 ≤ sizeLine; decide, [.int j tt, w], .cons ⟨_, rfl⟩ (.cons e2 .nil), ⟨_, e3, rfl, _, rfl⟩⟩
      have freshN : H1 N = none := I1.hok.fresh (by rw [hN2]; exact Nat.le_add_right _ _)
      have freshT : ∀ t ∈ as, H1 t = none := fun t ht => I1.hok.fresh (by
        refine Nat.le_trans ?_ (hG.low t ht).1
        rw [hN2]
        exact Nat.le_succ_of_le (Nat.le_add_right _ _))
      refine ⟨.ref N, _, I3, rfl, q _ N as (fun b o z => ?_) freshN freshT (layAll_at nd List.mem_cons_self) (by rw [has, List.size_toArray, hl]) fun j t ej => ?_⟩
      · rw [layAll_off fun q hq y => ?_]
        · exact z
        · have f : H1 q.1 = none := by
            rcases List.mem_cons.mp hq with w | w
            · rw [w]
              exact freshN
            · obtain ⟨j, h1, _⟩ := mem q w
              exact freshT _ (List.mem_of_getElem? h1)
          rw [y, z] at f
          cases f
      · obtain ⟨x, w, tt, e1, e2, e3⟩ := at' j t ej
        refine ⟨x, e1, layAll_at nd (List.mem_cons_of_mem _ (List.mem_map.mpr ⟨(t, j), List.mk_mem_zipIdx_iff_getElem?.mpr ej, ?_⟩))⟩
        show (t, HO.tup [.int (j : Nat), (xs[j]?).getD (.int 0)]) = _
        rw [e1]
        rfl
end
end Rw
set_option Elab.async false
set_option linter.all false
set_option maxRecDepth 100000
set_option maxHeartbeats 4000000
namespace Rw
open PySem PySem.Spec PyProof.Rows L2
theorem meets_enum_tup (a : Addr) (items : Array Value) :
    Meets (Builtin.«enumerate.__new__» ⟨[.type "enumerate", .ref a], []⟩) (fun _ R s => s.heap.IsTuple a items ∧
      R (.ok (.ret (.ref (s.heap.push { cls := .type "tuple_iterator", data := .fields #[.ref a, .int 0 0] }).objs.size)))
        { s with heap := (s.heap.push { cls := .type "tuple_iterator", data := .fields #[.ref a, .int 0 0] }).push { cls := .type "enumerate", data := .fields #[.none, .bool false, .ref s.heap.objs.size, rawInt 0, .none, .none] } }) :=
  .of_wp fun prog w A R s h => by
    obtain ⟨hp, g, d, tk, os⟩ := s
    obtain ⟨h1, h⟩ := h
    have hsub := sub_enumerate
    have q1 : ∀ {A' : Around} {E : Value → Shared → Prop} {Q : Value → Shared → Prop}, Q (.ref hp.objs.size) ⟨hp.push { cls := .type "tuple_iterator", data := .fields #[.ref a, .int 0 0] }, g, d, tk, os⟩ → wpAny (model prog w) A' (pyIter (.ref a)) Q E ⟨hp, g, d, tk, os⟩ :=
      fun q => (begins_tuple a items).iter prog w _ _ ⟨hp, g, d, tk, os⟩ _ h1 q
    wp_walk using q1
    refine wpAny_stack_any fun st => wpAny_pure ?_
    split
    · rename_i c _ _ _ _ _
      cases (c == Value.type "enumerate")
      · wp_walk using q1
        exact ⟨_, rfl, h⟩
      · wp_walk using q1
        exact ⟨_, rfl, h⟩
    · wp_walk using q1
      exact ⟨_, rfl, h⟩
section
variable {prog : Program} {w : World} {A : Around} {E : Value → Shared → Prop} {s : Shared}
theorem call_enumT {a : Addr} {items : Array Value} {Q : Value → Shared → Prop} (ht : s.heap.IsTuple a items)
    (h : ∀ h', IsEnum h' (s.heap.objs.size + 1) s.heap.objs.size 0 .none → h'.IsTupleIter s.heap.objs.size a 0 → (∀ b o, s.heap.get? b = some o → h'.get? b = some o) → Q (.ref (s.heap.objs.size + 1)) { s with heap := h' }) :
    wpAny (model prog w) A (call (.type "enumerate") [.ref a]) Q E s := by
  refine callType_new F.called_enumerate (by decide) (F.typeCall_enumerate_1 _) (F.newCall_enumerate_1 _) (fun obj => F.args_object_init_2 obj _) F.entry_enumerate_new (meets_enum_tup a items) ⟨ht, ?_⟩
  have hz : (s.heap.push { cls := .type "tuple_iterator", data := .fields #[.ref a, .int 0 0] }).objs.size = s.heap.objs.size + 1 := Heap.size_push ..
  show _ ∧ _
  rw [hz]
  have he : IsEnum ((s.heap.push { cls := .type "tuple_iterator", data := .fields #[.ref a, .int 0 0] }).push { cls := .type "enumerate", data := .fields #[.none, .bool false, .ref s.heap.objs.size, rawInt 0, .none, .none] }) (s.heap.objs.size + 1) s.heap.objs.size 0 .none := by
    have z := Heap.get?_push_size (s.heap.push { cls := .type "tuple_iterator", data := .fields #[.ref a, .int 0 0] }) (o := { cls := .type "enumerate", data := .fields #[.none, .bool false, .ref s.heap.objs.size, rawInt 0, .none, .none] }) rfl
    rwa [hz] at z
  exact ⟨⟨_, he, rfl⟩, h _ he ⟨_, Heap.get?_push_of_some _ (Heap.get?_push_size _ rfl), rfl, rfl⟩ fun b o x => Heap.get?_push_of_some _ (Heap.get?_push_of_some _ x)⟩
end
/-- the tuple at a, each item in a new pair with its place -/
def ItET (K : PySem.W.Frag) (a : Addr) : It :=
  ⟨fun i H => ∃ (xs : List V) (x : V), SqT K H a xs ∧ xs[i]? = some x, fun i H v H' => ∃ T x, v = .ref T ∧ H T = none ∧ H' = upd H T (.tup [.int (i : Nat), x]) ∧ ∀ xs, SqT K H a xs → xs[i]? = some x,
    fun i H => ∃ xs : List V, SqT K H a xs ∧ xs.length = i⟩
theorem turn_enumT {P : Program} {w : World} {K : PySem.W.Frag} {elts : List Expr} {kk : Nat} {tpos : Pos} (a e it : Addr) :
    Turn P w K (.Tuple elts kk tpos) (ItET K a) [e, it] e (fun i h => (∃ old, IsEnum h e it ((i : Nat) : Int) old) ∧ h.IsTupleIter it a i ∧ e ≠ it ∧ a ≠ e ∧ a ≠ it) where
  mem := List.mem_cons_self
  obj := fun i h st b hb => by
    obtain ⟨⟨old, he⟩, ⟨o, ho, _, hd⟩, _⟩ := st
    rcases List.mem_cons.mp hb with z | z
    · rw [z]
      exact ⟨_, he, fun v q => nomatch q⟩
    · rw [List.mem_singleton.mp z]
      exact ⟨o, ho, fun v q => by rw [hd] at q; cases q⟩
  keep := fun i h h' st k =>
    let ⟨⟨old, he⟩, hi, hne⟩ := st
    ⟨⟨old, k e List.mem_cons_self _ he⟩, hi.at fun o q => k it (List.mem_cons_of_mem _ List.mem_cons_self) o q, hne⟩
  item := by
    intro X hP hw hK hc i pins s σ H E I hf st hg
    subst hP hw hK
    obtain ⟨⟨old, he⟩, hit, hne, hae, hai⟩ := st
    obtain ⟨xs, x, hq, hx⟩ := hg
    obtain ⟨its, rv, pt, hz⟩ := I.tuple hq
    obtain ⟨u, hu, ru⟩ := rv.get hx
    have pt' : s.heap.IsTuple a its.toArray := pt
    have el : e < s.heap.objs.size := Heap.lt_size he
    have il : it < s.heap.objs.size := let ⟨_, q, _⟩ := hit; Heap.lt_size q
    have hi : i < its.toArray.size := by
      have z := (List.getElem?_eq_some_iff.mp hu).1
      simpa using z
    refine wpAny_pyNext_enum_itemD (Draws.tuple (A := X.A.in1) (I.ok.hd hc) it a hai its.toArray) he ⟨hit, pt'⟩ hi hne (by
      intro z
      rcases List.mem_cons.mp z with z | z
      · exact hne z
      · exact hae (List.mem_singleton.mp z).symm) fun y h' tk hy ho hst' hT hsz hk => ?_
    have ey : y = u := by
      have z : its[i]? = some y := by simpa using hy
      rw [hu] at z
      exact (Option.some.inj z).symm
    subst ey
    refine ⟨_, rfl, wpAny_letOwnedTupleGo_enum (s := { s with heap := h', toks := tk + 1 }) ho fun h'' he' sb => ?_⟩
    have hT2 : h''.get? s.heap.objs.size = some { cls := .type "tuple", data := .seq #[.int i tk, y] } := (sb.2 _ (Nat.ne_of_gt el)).trans hT
    have I1 : Inv X pins σ (upd H s.heap.objs.size (.tup [.int (i : Nat), x])) { s with heap := h'', toks := tk + 1 } :=
      I.turnedNew (ch := [e, it]) (fun b ob hb q => (sb.2 b (fun z => hb (by simp [z]))).trans (hk b ob (fun z => hb (by simp [z])) (fun z => hb (by simp [z])) q)) hf (Nat.le_refl _)
        ⟨by show 2 ≤ sizeLine; decide, [.int i tk, y], .cons ⟨_, rfl⟩ (.cons ru .nil), ⟨_, hT2, rfl, _, rfl⟩⟩
    refine ⟨.ref s.heap.objs.size, _, I1, rfl, ⟨_, x, rfl, I.hok.fresh (Nat.le_refl _), rfl, fun ys hy => by rw [I.tuple_inj hy hq]; exact hx⟩, ⟨⟨y, ?_⟩, hst'.1.at fun o q => (sb.2 it (Ne.symm hne)).trans q, hne, hae, hai⟩, fun b hb => ?_⟩
    · have e1 : ((i + 1 : Nat) : Int) = (i : Int) + 1 := by omega
      rw [e1]
      exact he'
    · have hb' : b < s.heap.objs.size := by
        rcases List.mem_cons.mp hb with z | z
        · rw [z]
          exact el
        · rw [List.mem_singleton.mp z]
          exact il
      rw [upd_ne (Nat.ne_of_lt hb')]
      exact (hf b hb).1
  done := by
    intro X hP hw hK hc i pins s σ H E I hf st hg
    subst hP hw hK
    obtain ⟨⟨old, he⟩, hit, hne, hae, hai⟩ := st
    obtain ⟨xs, hq, hx⟩ := hg
    obtain ⟨its, rv, pt, hz⟩ := I.tuple hq
    have pt' : s.heap.IsTuple a its.toArray := pt
    obtain ⟨f0, f1, f2, f3, f4, f5⟩ := hf it (List.mem_cons_of_mem _ List.mem_cons_self)
    have hl : its.toArray.size = i := by rw [List.size_toArray, ← rv.length, hx]
    subst hl
    exact wpAny_pyNext_enum_endD (Draws.tuple (A := X.A.in1) (I.ok.hd hc) it a hai its.toArray) he ⟨hit, pt'⟩ fun h' eb => ⟨rfl, I.turned (t' := s.toks) (fun b o hb q => eb b o hb q) f0 f1 f3 f4 f5⟩
  self := fun A i s Q E st h => let ⟨⟨_, he⟩, _⟩ := st; wpAny_pyIter_enum he h
/-- over enumerate(e), e a list or a tuple -/
def EnJ (K : PySem.W.Frag) (H : Hp) (a : Addr) (xs : List V) (J : It) : Prop := (SqL K H a xs ∧ J = Ite K a) ∨ (SqT K H a xs ∧ J = ItET K a)
def iEnumS (K : PySem.W.Frag) (ta : TA) : TI := fun σ H R => ta σ H fun vs H1 => ∃ a xs J, vs = [.ref a] ∧ EnJ K H1 a xs J ∧ R J H1
theorem pi_enumS {X : Cx} {e : Expr} {ta : TA} {p pos tpos : Pos} {elts : List Expr} {kk : Nat} (hg : Gl X "enumerate") (hm : X.mg "enumerate" = none) (ha : PA X [e] ta) (hs : starEach [e] X.env = [(false, eval e X.env)] := by rfl) :
    PI X (.Tuple elts kk tpos) (.Call (.Name "enumerate" p) [e] [] pos) (iEnumS X.K ta) := by
  refine ⟨fun pins s σ H R I h => ?_⟩
  refine Call_ (ld_blt I hg hm boot_enumerate (PyProof.Rows.callWith_type1 (thn (ha.run pos pins s σ H _ I h) fun us s1 ⟨vs, H1, I1, r1, q1⟩ => ?_) hs rfl))
  obtain ⟨a, xs, J, ex, q1, q⟩ := q1
  subst ex
  obtain ⟨u, rfl, ru⟩ := r1.one
  cases ru
  have fp : ∀ b ∈ [s1.heap.objs.size + 1, s1.heap.objs.size], FpOk X pins H1 b := fun b hb => by
    have hle : s1.heap.objs.size ≤ b := by
      rcases List.mem_cons.mp hb with z | z
      · rw [z]
        exact Nat.le_succ _
      · rw [List.mem_singleton.mp z]
        exact Nat.le_refl _
    exact I1.fpOk hle (I1.hok.fresh hle)
  rcases q1 with ⟨hq, rfl⟩ | ⟨hq, rfl⟩
  · obtain ⟨its, rv, pl, hz⟩ := I1.list hq
    exact call_enumerate_list pl.isList fun h' he hit hsz hk => wpAny_pyIter_enum he
      ⟨s1.heap.objs.size + 1, [s1.heap.objs.size + 1, s1.heap.objs.size], _, _, H1, rfl, I1.kept (t' := s1.toks) hk, turn_enum a (s1.heap.objs.size + 1) s1.heap.objs.size, ⟨⟨.none, he⟩, hit, Nat.succ_ne_self _⟩, fp, q⟩
  · obtain ⟨its, rv, pt, hz⟩ := I1.tuple hq
    have lt : a < s1.heap.objs.size := let ⟨_, ho, _⟩ := pt; Heap.lt_size ho
    exact call_enumT (show s1.heap.IsTuple a its.toArray from pt) fun h' he hit hk => wpAny_pyIter_enum he
      ⟨s1.heap.objs.size + 1, [s1.heap.objs.size + 1, s1.heap.objs.size], _, _, H1, rfl, I1.kept (t' := s1.toks) hk, turn_enumT a (s1.heap.objs.size + 1) s1.heap.objs.size, ⟨⟨.none, he⟩, hit, Nat.succ_ne_self _, Nat.ne_of_lt (Nat.lt_succ_of_lt lt), Nat.ne_of_lt lt⟩, fp, q⟩
theorem walk_enumT {K : PySem.W.Frag} {a : Addr} {xs : List V} : Walk (ItET K a) xs.length (fun H => SqT K H a xs) (YPair (fun i => some (.int (i : Nat))) (fun i => xs[i]?)) := by
  refine ⟨fun i _ hi q => ⟨xs, xs[i], q, by simp [hi]⟩, fun _ q => ⟨xs, q, rfl⟩, fun i H v H' _ q y => ?_⟩
  obtain ⟨T, x, h1, h2, h3, h4⟩ := y
  exact ⟨T, .int (i : Nat), x, h1, h2, h3, rfl, h4 xs q⟩
end Rw
set_option Elab.async false
set_option linter.all false
set_option maxRecDepth 100000
set_option maxHeartbeats 4000000
namespace Rw
open PySem L2
abbrev sIsInteger : Stmt := top 3
abbrev sIsList : Stmt := top 4
abbrev sIsName : Stmt := top 5
/-! ### types -/
def K7 (n : String) : Prop := n = "NoneType" ∨ n = "bool" ∨ n = "int" ∨ n = "str" ∨ n = "list" ∨ n = "tuple" ∨ n = "dict"
/-- a value of one of these types -/
structure Ty (K : PySem.W.Frag) (H : Hp) (v : V) (n : String) : Prop where
  h : TyX K H v (.type n)
  m : K7 n
def isSeqN (n : String) : Bool := n == "list" || n == "tuple"
theorem kit_seq {n : String} (m : K7 n) {K : PySem.W.Frag} : PySem.W.kitAny K (.type n) [.type "list", .type "tuple"] = some (isSeqN n) := by
  rcases m with rfl | rfl | rfl | rfl | rfl | rfl | rfl
  · exact kitAny_cons (b := false) (kit_ty (by decide +kernel)) (fun _ => kitAny_cons (b := false) (kit_ty (by decide +kernel)) (fun _ => rfl) (fun z => by cases z)) (fun z => by cases z)
  · exact kitAny_cons (b := false) (kit_ty (by decide +kernel)) (fun _ => kitAny_cons (b := false) (kit_ty (by decide +kernel)) (fun _ => rfl) (fun z => by cases z)) (fun z => by cases z)
  · exact kitAny_cons (b := false) (kit_ty (by decide +kernel)) (fun _ => kitAny_cons (b := false) (kit_ty (by decide +kernel)) (fun _ => rfl) (fun z => by cases z)) (fun z => by cases z)
  · exact kitAny_cons (b := false) (kit_ty (by decide +kernel)) (fun _ => kitAny_cons (b := false) (kit_ty (by decide +kernel)) (fun _ => rfl) (fun z => by cases z)) (fun z => by cases z)
  · exact kitAny_cons (b := true) (kit_ty (by decide +kernel)) (fun z => by cases z) (fun _ => rfl)
  · exact kitAny_cons (b := false) (kit_ty (by decide +kernel)) (fun _ => kitAny_cons (b := true) (kit_ty (by decide +kernel)) (fun z => by cases z) (fun _ => rfl)) (fun z => by cases z)
  · exact kitAny_cons (b := false) (kit_ty (by decide +kernel)) (fun _ => kitAny_cons (b := false) (kit_ty (by decide +kernel)) (fun _ => rfl) (fun z => by cases z)) (fun z => by cases z)
theorem kit_one {n : String} (m : K7 n) {K : PySem.W.Frag} {c : String} (hc : c = "int" ∨ c = "bool" ∨ c = "str" ∨ c = "tuple" ∨ c = "dict") :
    PySem.W.kitOne K (.type n) (.type c) = some (n == c || (n == "bool" && c == "int")) := by
  refine kit_ty ?_
  rcases m with rfl | rfl | rfl | rfl | rfl | rfl | rfl <;> rcases hc with rfl | rfl | rfl | rfl | rfl <;> decide +kernel
theorem Ty.same {K : PySem.W.Frag} {H H' : Hp} {v : V} {n : String} (h : Ty K H v n) (s : Same H H') : Ty K H' v n := by
  obtain ⟨h, m⟩ := h
  refine ⟨?_, m⟩
  cases h with
  | base b =>
    refine .base ?_
    cases b with
    | non => exact .non
    | bl x => exact .bl x
    | int i => exact .int i
    | str x => exact .str x
    | lst e => exact .lst (s _ _ e)
    | frz e => exact .frz (s _ _ e)
    | tup e => exact .tup (s _ _ e)
    | dK e => exact .dK (s _ _ e)
    | dT e => exact .dT (s _ _ e)
    | flt x => exact .flt x
  | byt b => exact .byt b
  | set e => exact .set (s _ _ e)
  | kList e c => exact .kList e c
  | kTuple e c => exact .kTuple e c
  | kDict e c => exact .kDict e c
  | fTuple e => exact .fTuple (s _ _ e)
  | fDict e => exact .fDict (s _ _ e)
section
variable {P : Program} {w : World} {K : PySem.W.Frag} {mg : Str → Option Value} {base : Heap}
def spIsInteger (K : PySem.W.Frag) : Sp := fun vs H Q _ => ∃ (v : V) (n : String), vs = [v] ∧ Ty K H v n ∧ Q (.bl (n == "int")) H
theorem scIsInteger : FnScope ["thing"] ["thing"] (defScope sIsInteger) := ⟨rfl, rfl, rfl, by decide +kernel, rfl, by decide +kernel, by decide +kernel⟩
theorem ok_is_integer {f : Addr} {fd : FuncData} (F : Fun K "is_integer" "is_integer" sIsInteger f fd) (mi : mg "isinstance" = none) (m1 : mg "int" = none) (m2 : mg "bool" = none) : FnOk P w K mg base CX0 1 f fd ["thing"] (spIsInteger K) := by
  refine F.ok scIsInteger (fun vs H Q E h => ?_) (fun cdv A outer s H vs Q E hr h => ?_)
  · obtain ⟨v, n, rfl, _⟩ := h
    rfl
  obtain ⟨v, n, rfl, ⟨hT, m⟩, q⟩ := h
  refine ⟨_, pss_one (ps_ret (pe_and (pe_callB call_isi rfl mi (by decide +kernel) (pa_cons (pv 0) (pa_cons (pe_bltn (v := .ty "int") rfl m1 (by decide +kernel) rfl) pa_nil)))
    (pe_one (pe_not (pe_callB call_isi rfl mi (by decide +kernel) (pa_cons (pv 0) (pa_cons (pe_bltn (v := .ty "bool") rfl m2 (by decide +kernel) rfl) pa_nil))))))), ?_⟩
  refine ⟨_, rfl, v, .ty "int", _, _, _, rfl, ClsV.ty "int", hT, kit_one m (by simp), _, rfl, ?_⟩
  refine ite2 (fun c => ?_) (fun c => ?_)
  · refine ⟨_, rfl, v, .ty "bool", _, _, _, rfl, ClsV.ty "bool", hT, kit_one m (by simp), _, rfl, ?_⟩
    have e : (!(n == "bool" || (n == "bool" && "bool" == "int"))) = (n == "int") := by
      clear hT q
      rcases m with rfl | rfl | rfl | rfl | rfl | rfl | rfl <;> first | rfl | (revert c; decide)
    rw [e]
    exact q
  · have e : (n == "int") = false := by
      cases h : (n == "int") with
      | false => rfl
      | true => rw [h] at c; exact absurd rfl c
    rw [e] at q
    exact q
def spIsList (K : PySem.W.Frag) : Sp := fun vs H Q _ => ∃ (v : V) (n : String), vs = [v] ∧ Ty K H v n ∧ ∀ H', Same H H' → Q (.bl (isSeqN n)) H'
theorem scIsList : FnScope ["thing"] ["thing"] (defScope sIsList) := ⟨rfl, rfl, rfl, by decide +kernel, rfl, by decide +kernel, by decide +kernel⟩
theorem ok_is_list {f : Addr} {fd : FuncData} (F : Fun K "is_list" "is_list" sIsList f fd) (mi : mg "isinstance" = none) (m1 : mg "list" = none) (m2 : mg "tuple" = none) : FnOk P w K mg base CX0 1 f fd ["thing"] (spIsList K) := by
  refine F.ok scIsList (fun vs H Q E h => ?_) (fun cdv A outer s H vs Q E hr h => ?_)
  · obtain ⟨v, n, rfl, _⟩ := h
    rfl
  obtain ⟨v, n, rfl, hT, q⟩ := h
  refine ⟨_, pss_one (ps_ret (pe_callB call_isiT rfl mi (by decide +kernel) (pa_cons (pv 0) (pa_cons (pe_tup (pa_cons (pe_bltn (v := .ty "list") rfl m1 (by decide +kernel) rfl) (pa_cons (pe_bltn (v := .ty "tuple") rfl m2 (by decide +kernel) rfl) pa_nil))) pa_nil)))), ?_⟩
  refine ⟨_, rfl, (by show 2 ≤ sizeLine; decide), fun p hp => ?_⟩
  obtain ⟨hT, m⟩ := hT.same (same_new hp (.tup [.ty "list", .ty "tuple"]))
  exact ⟨v, p, _, _, _, _, rfl, upd_same, .cons (ClsV.ty "list") (.cons (ClsV.ty "tuple") .nil), hT, kit_seq m, q _ (same_new hp _)⟩
end
end Rw
set_option Elab.async false
set_option linter.all false
set_option maxRecDepth 100000
set_option maxHeartbeats 4000000
namespace Rw
open PySem L2
def letters : Str := "abcdefghijklmnopqrstuvwxyz"
def inLetters (c : Nat) : Bool := !(Builtin.Str.occurrences letters ⟨#[c]⟩ 0 letters.length 1).isEmpty
def nameB (z : Str) : Bool := decide (1 ≤ z.length) && decide (z.length ≤ 8) && z.cps.toList.all inLetters
theorem nameB_menu : ∀ x ∈ menu, nameB x = true := by decide +kernel
theorem len_menu : ∀ x ∈ menu, x.length ≤ 8 := by decide +kernel
theorem chosen_all (n : Nat) {b : Nat → Bool} (h : ∀ i, i < n → b i = true) : chosen n b = List.range n := by
  unfold chosen
  exact List.filter_eq_self.mpr fun i hi => h i (List.mem_range.mp hi)
theorem paired_bools {xs : List Nat} {f : Nat → Bool} : ∀ {n : Nat} {ys : List V}, n ≤ xs.length → Paired (fun i y => ∃ c, xs[i]? = some c ∧ y = V.bl (f c)) (List.range n) ys → ys = ((xs.take n).map f).map V.bl
  | 0, ys, _, r => by
    have r : Paired _ [] ys := r
    cases r
    rfl
  | n + 1, ys, hn, r => by
    rw [List.range_succ] at r
    obtain ⟨zs, y, rfl, h1, c, hc, hy⟩ := Rw.Paired.unsnoc r
    rw [paired_bools (by omega) h1, List.take_succ, hc, hy]
    simp
section
variable {P : Program} {w : World} {K : PySem.W.Frag} {mg : Str → Option Value} {base : Heap}
def spIsName (K : PySem.W.Frag) : Sp := fun vs H Q _ => ∃ (v : V) (b : Bool), vs = [v] ∧ ((∃ z : Str, v = .str z ∧ z.length ≤ 1000 ∧ b = nameB z) ∨ ∃ n, Ty K H v n ∧ n ≠ "str" ∧ b = false) ∧ ∀ H', Same H H' → Q (.bl b) H'
theorem scIsName : FnScope ["thing", "letter"] ["thing"] (defScope sIsName) := ⟨rfl, rfl, rfl, by decide +kernel, rfl, by decide +kernel, by decide +kernel⟩
theorem ok_is_name {f : Addr} {fd : FuncData} (F : Fun K "is_name" "is_name" sIsName f fd) (mi : mg "isinstance" = none) (m1 : mg "str" = none) (ml : mg "len" = none) (ma : mg "all" = none) {t1 t2 : Tok} (mL : mg "LONGEST_NAME" = some (.int 8 t1)) (mT : mg "LETTERS" = some (.str letters t2)) :
    FnOk P w K mg base CX0 1 f fd ["thing"] (spIsName K) := by
  refine F.ok scIsName (fun vs H Q E h => ?_) (fun cdv A outer s H vs Q E hr h => ?_)
  · obtain ⟨v, b, rfl, _⟩ := h
    rfl
  obtain ⟨v, b, rfl, hv, q⟩ := h
  refine ⟨_, pss_cons (ps_if (PW.pt (pw_or (pt_not (pt_val (pe_callB call_isi rfl mi (by decide +kernel) (pa_cons (pv 0) (pa_cons (pe_bltn (v := .ty "str") rfl m1 (by decide +kernel) rfl) pa_nil)))))
      (pw_or1 (pt_not (pt_chain op_le op_le pe_int (pe_callB call_len_str rfl ml PySem.boot_len (pa_cons (pv 0) pa_nil)) (pe_glob (v := .int 8) rfl mL ⟨_, rfl⟩)))))) (pss_one (ps_ret pe_bl)) pss_nil)
    (pss_one (ps_ret (pe_callB (cr_all rfl) rfl ma (by decide +kernel) (pa_cons (pe_lc (own := [("letter", 1)]) (g := gName 1) rfl scIsName.nd (pi_str (pv 0)) (blkOk_by (N := ["thing", "letter"]) (sc := defScope sIsName) (by decide +kernel))
      (fun _ _ _ _ _ => pg_name (i := 1) scIsName.nd rfl (Or.inl rfl)) (fun _ _ _ _ _ => pts_nil) (fun _ _ _ _ _ => pe_cmpR op_in_str (pv 1) (pe_glob (v := .str letters) rfl mT ⟨_, rfl⟩) rfl)) pa_nil)))), ?_⟩
  rcases hv with ⟨z, rfl, hz, rfl⟩ | ⟨n, hT, hn, rfl⟩
  · have k1 : PySem.W.kitOne K (.type "str") (.type "str") = some true := kit_ty (by decide +kernel)
    refine ⟨_, rfl, .str z, .ty "str", _, _, true, rfl, ClsV.ty "str", .base (.str z), k1, true, rfl, ?_⟩
    refine ite2 (fun c => by cases c) (fun _ => ?_)
    refine ⟨_, rfl, z, rfl, Nat.le_trans hz (by decide), _, _, rfl, rfl, _, rfl, ?_⟩
    have bad : nameB z = false → Q (.bl false) H := fun hb => by
      have y := q H (Same.refl H)
      rw [hb] at y
      exact y
    refine ite2 (fun c1 => ?_) (fun c1 => ?_)
    · have c1 : (1 : Int) ≤ ((z.length : Nat) : Int) := of_decide_eq_true c1
      refine ⟨_, _, rfl, rfl, _, rfl, ?_⟩
      refine ite2 (fun c2 => ?_) (fun c2 => ?_)
      · refine bad ?_
        have c2 : ¬ ((z.length : Nat) : Int) ≤ 8 := fun y => by rw [decide_eq_true y] at c2; cases c2
        unfold nameB
        rw [decide_eq_false (show ¬ z.length ≤ 8 by omega)]
        simp
      · have c2 : ((z.length : Nat) : Int) ≤ 8 := by
          by_cases y : ((z.length : Nat) : Int) ≤ 8
          · exact y
          · exact absurd (by rw [decide_eq_false y]; rfl) c2
        refine ⟨_, rfl, z, rfl, fun D hD => ?_⟩
        have e0 : z.cps.size = z.cps.toList.length := Array.length_toList.symm
        refine lc_map (S := Same) walk_str (stp_same D) hD (by show z.length ≤ 50000; omega) (fun _ => true) (fun j H y => ∃ c, z.cps.toList[j]? = some c ∧ y = .bl (inLetters c)) (fun _ _ _ _ _ h => h) (fun _ _ _ _ _ _ h => h) (fun _ _ => True.intro) ?_ ?_
        · rintro j x H2 H3 acc N Z hj s2 hacc ⟨rfl, c, hc, rfl⟩ hyes hno
          refine ⟨rfl, _, rfl, _, _, rfl, rfl, ?_⟩
          exact hyes rfl _ _ (Same.refl _) ⟨c, by rw [Array.getElem?_toList]; exact hc, rfl⟩
        · intro ys H3 s3 e3 r3
          rw [chosen_all _ (fun _ _ => rfl), e0] at r3
          have e4 := paired_bools (f := inLetters) (Nat.le_refl _) r3
          rw [List.take_length] at e4
          subst e4
          refine ⟨D, _, rfl, SqL.of e3, ?_⟩
          have e5 : (List.map inLetters z.cps.toList).all id = nameB z := by
            unfold nameB
            rw [decide_eq_true (show 1 ≤ z.length by omega), decide_eq_true (show z.length ≤ 8 by omega), List.all_map]
            rfl
          rw [e5]
          exact q H3 s3
    · refine ⟨false, rfl, (if_pos rfl).mpr ?_⟩
      refine bad ?_
      have c1 : ¬ (1 : Int) ≤ ((z.length : Nat) : Int) := fun y => c1 (decide_eq_true y)
      unfold nameB
      rw [decide_eq_false (show ¬ 1 ≤ z.length by omega)]
      rfl
  · have k1 : PySem.W.kitOne K (.type n) (.type "str") = some false := by
      have k2 := kit_one (K := K) hT.m (c := "str") (by simp)
      rw [k2]
      have h1 : (n == "str") = false := by simpa using hn
      rw [h1]
      cases (n == "bool") <;> rfl
    refine ⟨_, rfl, v, .ty "str", _, _, false, rfl, ClsV.ty "str", hT.h, k1, false, rfl, ?_⟩
    refine (if_pos rfl).mpr ?_
    exact (if_pos rfl).mpr (q H (Same.refl H))
end
end Rw
set_option Elab.async false
set_option linter.all false
set_option maxRecDepth 100000
set_option maxHeartbeats 4000000
namespace Rw
open PySem L2
abbrev sBadNameAt : Stmt := top 6
abbrev sBadChoiceAt : Stmt := top 7
/-! ### dicts of names -/
def marks (ms : List Str) : List (Key × V) := ms.map fun x => (.inr x, .bl true)
theorem marks_len (ms : List Str) : (marks ms).length = ms.length := List.length_map _
theorem marks_not {x : Str} : ∀ {ms : List Str}, x ∉ ms → valV (marks ms) (.inr x : Key) = none
  | [], _ => rfl
  | m :: ms, h => by
    show valV ((.inr m, .bl true) :: marks ms) (.inr x : Key) = none
    rw [valV_neg fun e => h (by injection e with e; rw [e]; exact List.mem_cons_self)]
    exact marks_not fun z => h (List.mem_cons_of_mem _ z)
theorem marks_in {x : Str} : ∀ {ms : List Str}, x ∈ ms → valV (marks ms) (.inr x : Key) = some (.bl true)
  | m :: ms, h => by
    show valV ((.inr m, .bl true) :: marks ms) (.inr x : Key) = _
    by_cases e : m = x
    · exact valV_pos (p := ((.inr m : Key), V.bl true)) (by rw [e])
    · rw [valV_neg fun z => e (by injection z)]
      exact marks_in ((List.mem_cons.mp h).resolve_left fun z => e z.symm)
theorem marks_put {x : Str} {ms : List Str} (h : x ∉ ms) : putK (marks ms) (.inr x) (.bl true) = marks (ms ++ [x]) := by
  rw [putK_new _ (marks_not h)]
  unfold marks
  rw [List.map_append]
  rfl
theorem marks_put_in {x : Str} {ms : List Str} (h : x ∈ ms) : putK (marks ms) (.inr x) (.bl true) = marks ms := by
  unfold putK
  rw [if_pos (by rw [valV_any, marks_in h]; rfl)]
  unfold marks
  rw [List.map_map]
  refine List.map_congr_left fun y _ => ?_
  show (if ((.inr y : Key), V.bl true).1 = (.inr x : Key) then ((.inr y : Key), V.bl true) else ((.inr y : Key), V.bl true)) = _
  split <;> rfl
theorem marks_drop {x : Str} {ms : List Str} : dropK (marks ms) (.inr x : Key) = marks (ms.filter fun y => decide (y ≠ x)) := by
  unfold dropK marks
  rw [List.filter_map]
  congr 1
  refine List.filter_congr fun y _ => ?_
  simp
/-- a list or a tuple of these texts -/
abbrev TxS (K : PySem.W.Frag) (H : Hp) (a : Addr) (ns : List Str) : Prop := Seq K H a (ns.map V.str)
theorem at_map {α β : Type} {f : α → β} {xs : List α} {i : Nat} {y : β} (h : (xs.map f)[i]? = some y) : ∃ x, xs[i]? = some x ∧ y = f x := by
  rw [List.getElem?_map] at h
  cases e : xs[i]? with
  | none => rw [e] at h; cases h
  | some x => rw [e] at h; exact ⟨x, rfl, (Option.some.inj h).symm⟩
theorem seq_ty {K : PySem.W.Frag} {H : Hp} {a : Addr} {xs : List V} (h : Seq K H a xs) : ∃ n, Ty K H (.ref a) n ∧ isSeqN n = true ∧ n ≠ "str" := by
  rcases h with ((h | ⟨o, h⟩) | ⟨o, its, n, hk, hc, _⟩) | ((h | ⟨o, h⟩) | ⟨o, its, n, hk, hc, _⟩)
  · exact ⟨"list", ⟨.base (.lst h), by unfold K7; simp⟩, by decide +kernel, by decide +kernel⟩
  · exact ⟨"list", ⟨.base (.frz h), by unfold K7; simp⟩, by decide +kernel, by decide +kernel⟩
  · exact ⟨"list", ⟨.kList hk hc, by unfold K7; simp⟩, by decide +kernel, by decide +kernel⟩
  · exact ⟨"tuple", ⟨.base (.tup h), by unfold K7; simp⟩, by decide +kernel, by decide +kernel⟩
  · exact ⟨"tuple", ⟨.fTuple h, by unfold K7; simp⟩, by decide +kernel, by decide +kernel⟩
  · exact ⟨"tuple", ⟨.kTuple hk hc, by unfold K7; simp⟩, by decide +kernel, by decide +kernel⟩
theorem sqT_same {K : PySem.W.Frag} {H H' : Hp} {a : Addr} {xs : List V} (s : Same H H') (h : SqT K H a xs) : SqT K H' a xs := by
  rcases h with (h | ⟨o, h⟩) | h
  · exact .inl (.inl (s _ _ h))
  · exact .inl (.inr ⟨o, s _ _ h⟩)
  · exact .inr h
theorem Seq.same {K : PySem.W.Frag} {H H' : Hp} {a : Addr} {xs : List V} (h : Seq K H a xs) (s : Same H H') : Seq K H' a xs := h.elim (fun z => .inl (s.seq z)) fun z => .inr (sqT_same s z)
theorem enumJ_of {K : PySem.W.Frag} {H : Hp} {a : Addr} {xs : List V} (hS : Seq K H a xs) :
    ∃ (J : It) (G : Hp → Prop), EnJ K H a xs J ∧ Walk J xs.length G (YPair (fun i => some (.int (i : Nat))) (fun i => xs[i]?)) ∧ ∀ H', Same H H' → G H' :=
  hS.elim (fun z => ⟨_, _, .inl ⟨z, rfl⟩, walk_enum, fun H' s => s.seq z⟩) fun z => ⟨_, _, .inr ⟨z, rfl⟩, walk_enumT, fun H' s => sqT_same s z⟩
theorem EnJ.same {K : PySem.W.Frag} {H H' : Hp} {a : Addr} {xs : List V} {J : It} (h : EnJ K H a xs J) (s : Same H H') : EnJ K H' a xs J := h.elim (fun z => .inl ⟨s.seq z.1, z.2⟩) fun z => .inr ⟨sqT_same s z.1, z.2⟩
theorem not_before {α : Type} {xs : List α} {i : Nat} {x : α} (h : xs.Nodup) (e : xs[i]? = some x) : x ∉ xs.take i := fun hm => by
  obtain ⟨j, hj, ej⟩ := List.mem_iff_getElem.mp hm
  rw [List.length_take] at hj
  have hi : i < xs.length := (List.getElem?_eq_some_iff.mp e).1
  rw [List.getElem_take] at ej
  have e2 : xs[i] = x := (List.getElem?_eq_some_iff.mp e).2
  have := (List.getElem_inj h (h₀ := by omega) (h₁ := hi)).mp (ej.trans e2.symm)
  omega
theorem take_snoc {α : Type} {xs : List α} {i : Nat} {x : α} (e : xs[i]? = some x) : xs.take (i + 1) = xs.take i ++ [x] := by
  rw [List.take_succ, e]
  rfl
section
variable {P : Program} {w : World} {K : PySem.W.Frag} {mg : Str → Option Value} {base : Heap}
/-- names, each unlike, pass -/
def spBadNameAt (K : PySem.W.Frag) : Sp := fun vs H Q _ => ∃ (a : Addr) (ns : List Str), vs = [.ref a] ∧ TxS K H a ns ∧ ns.Nodup ∧ (∀ x ∈ ns, nameB x = true ∧ x.length ≤ 1000) ∧ ns.length ≤ 1000 ∧ ∀ H', Same H H' → Q .non H'
theorem scBadNameAt : FnScope ["things", "seen", "at", "thing"] ["things"] (defScope sBadNameAt) := ⟨rfl, rfl, rfl, by decide +kernel, rfl, by decide +kernel, by decide +kernel⟩
theorem ok_bad_name_at {f fl fn : Addr} {fd fdl fdn : FuncData} (F : Fun K "bad_name_at" "bad_name_at" sBadNameAt f fd) (GL : FnOk P w K mg base CX0 1 fl fdl ["thing"] (spIsList K)) (GN : FnOk P w K mg base CX0 1 fn fdn ["thing"] (spIsName K))
    (bL : Binds K fdl ["thing"] []) (bN : Binds K fdn ["thing"] []) (kL : PySem.W.keepIn K (.ref fl) = true) (kN : PySem.W.keepIn K (.ref fn) = true) (mL : mg "is_list" = some (.ref fl)) (mN : mg "is_name" = some (.ref fn)) (me : mg "enumerate" = none) :
    FnOk P w K mg base CX0 2 f fd ["things"] (spBadNameAt K) := by
  refine F.ok scBadNameAt (fun vs H Q E h => ?_) (fun cdv A outer s H vs Q E hr h => ?_)
  · obtain ⟨a, ns, rfl, _⟩ := h
    rfl
  obtain ⟨a, ns, rfl, hS, hnd, hnm, hlen, q⟩ := h
  have hu := hu_of hr
  refine ⟨_, pss_cons (ps_if (pt_not (pt_val (pe_call GL hr rfl mL kL bL .nil pass0 (pa_cons (pv 0) pa_nil)))) (pss_one (ps_ret pe_int)) pss_nil)
    (pss_cons (ps_set (i := 1) scBadNameAt.nd rfl (Or.inl rfl) pe_dnewK)
    (pss_cons (ps_for PassesOwn.never rfl (pi_enumS rfl me (pa_cons (pv 0) pa_nil)) (pg_tup rfl (pgs_cons (pg_name (i := 2) scBadNameAt.nd rfl (Or.inl rfl)) (pgs_cons (pg_name (i := 3) scBadNameAt.nd rfl (Or.inl rfl)) pgs_nil)))
      (pss_cons (ps_if (PW.pt (pw_or (pt_not (pt_val (pe_call GN hr rfl mN kN bN .nil pass0 (pa_cons (pv 3) pa_nil)))) (pw_or1 (pt_cmp (pc_din hu (pv 3) (pv 1)))))) (pss_one (ps_ret (pv 2))) pss_nil)
      (pss_one (ps_dput hu (pv 1) (pv 3) pe_bl rfl))))
    (pss_one (ps_ret pe_non)))), ?_⟩
  obtain ⟨n, hT, hn, _⟩ := seq_ty hS
  refine ⟨_, rfl, _, n, rfl, hT, fun H1 s1 => ⟨_, rfl, ?_⟩⟩
  rw [hn]
  refine (if_neg (by decide)).mpr ?_
  intro d hd
  obtain ⟨J, G, hJ, wk, hG⟩ := enumJ_of (Seq.same hS s1)
  rw [List.length_map] at wk
  refine ⟨_, rfl, a, ns.map V.str, J, rfl, EnJ.same hJ (same_new hd _), for_it wk (fun i σ' H' => ∃ u v : Option V, σ' = [some (.ref a), some (.ref d), u, v] ∧ Same H1 H' ∧ H' d = some (.dK (marks (ns.take i)))) ⟨none, none, rfl, same_new hd _, upd_same⟩ ?_ ?_ ?_⟩
  · rintro i σ' H' hi ⟨u, v, rfl, s2, hd2⟩
    exact hG H' s2
  · rintro i x σ' H2 H3 hi ⟨u, v, rfl, s2, hd2⟩ ⟨T, y, z, rfl, hT3, rfl, ey, ez⟩
    obtain ⟨c, hc, rfl⟩ := at_map ez
    cases ey
    have hcm : c ∈ ns := List.mem_of_getElem? hc
    have dT : (upd H2 T (.tup [.int (i : Nat), .str c])) d = some (.dK (marks (ns.take i))) := by rw [upd_ne (ne_of_none hd2 hT3)]; exact hd2
    have s3 : Same H1 (upd H2 T (.tup [.int (i : Nat), .str c])) := s2.trans (same_new hT3 _)
    refine ⟨T, _, rfl, SqT.of upd_same, rfl, _, _, rfl, _, _, rfl, rfl, ?_⟩
    refine ⟨_, rfl, .str c, true, rfl, .inl ⟨c, rfl, (hnm c hcm).2, (hnm c hcm).1.symm⟩, fun H4 s4 => ⟨_, rfl, ?_⟩⟩
    have d4 := s4 _ _ dT
    have hni := not_before hnd hc
    refine (if_neg (by decide)).mpr ?_
    have g4 : DGet H4 d (kV (.inr c)) none := by
      have z := DGet.k (k := .inr c) d4
      rw [marks_not hni] at z
      exact z
    refine ⟨_, rfl, _, rfl, d, none, rfl, g4, false, rfl, ?_⟩
    refine (if_neg (by decide)).mpr ?_
    have ln : (marks (ns.take i)).length < sizeLine := by
      rw [marks_len, List.length_take]
      exact small1000 (by omega)
    have p4 : DPut H4 d (.str c) (.bl true) (upd H4 d (.dK (marks (ns.take (i + 1))))) := by
      have z := DPut.k (v := .bl true) (k := .inr c) d4 ln
      rw [marks_put hni, ← take_snoc hc] at z
      exact z
    refine ⟨_, rfl, _, rfl, d, _, rfl, p4, _, _, rfl, fun b o e => ?_, upd_same⟩
    have e4 := s4 _ _ (s3 _ _ e)
    rw [upd_ne (ne_of_none e hd)]
    exact e4
  · rintro σ' H' ⟨u, v, rfl, s2, hd2⟩
    exact q H' (s1.trans s2)
end
end Rw
set_option Elab.async false
set_option linter.all false
set_option maxRecDepth 100000
set_option maxHeartbeats 4000000
namespace Rw
open PySem L2
/-- turns over a walk -/
theorem turns_it {J : It} {n : Nat} {G : Hp → Prop} {Y : Nat → Hp → V → Hp → Prop} {g : TG} {tt : TT} {tb : TB} {vs : List Nat} {σ : L2.St} {H1 : Hp} {Dn : Hp → Prop} (w : Walk J n G Y) (Pv : Nat → Hp → Prop) (h0 : Pv 0 H1) (hG : ∀ i H, i ≤ n → Pv i H → G H)
    (hs : ∀ i x H H', i < n → Pv i H → Y i H x H' → g x (wipe σ vs) H' fun σ2 H2 => wipe σ2 vs = wipe σ vs ∧ tt σ2 H2 fun b H3 => if b = true then tb σ2 H3 (Pv (i + 1)) else Pv (i + 1) H3) (hd : ∀ H, Pv n H → Dn H) :
    ∃ W : Nat → Nat → Hp → Prop, (∃ m, W 0 m H1) ∧ tTurns J g tt tb vs σ W Dn := by
  refine ⟨fun i m H => m = n - i ∧ i ≤ n ∧ Pv i H, ⟨n, rfl, Nat.zero_le _, h0⟩, ?_⟩
  rintro i m H ⟨rfl, hi, p⟩
  have q := hG i H hi p
  by_cases lt : i < n
  · exact .inr ⟨w.goes i H lt q, Pv (i + 1), fun H' p' => ⟨n - (i + 1), by omega, rfl, lt, p'⟩, fun x H' y => hs i x H H' lt p (w.yields i H x H' lt q y)⟩
  · have e : i = n := by omega
    subst e
    exact .inl ⟨w.stops H q, hd H p⟩
/-- what is none of the names, or is there already -/
def OddC (K : PySem.W.Frag) (H : Hp) (ns cs : List Str) (o : V) : Prop := (∃ n, Ty K H o n ∧ n ≠ "str") ∨ ∃ z, o = .str z ∧ (z ∉ ns ∨ z ∈ cs)
theorem OddC.same {K : PySem.W.Frag} {H H' : Hp} {ns cs : List Str} {o : V} (h : OddC K H ns cs o) (s : Same H H') : OddC K H' ns cs o := h.elim (fun ⟨n, t, e⟩ => .inl ⟨n, t.same s, e⟩) .inr
/-- what a choice out of names tells -/
inductive Chose (K : PySem.W.Frag) (H : Hp) (ns : List Str) : V → V → Prop where
  | none (v : V) (n : String) (h : Ty K H v n) (hn : isSeqN n = false) : Chose K H ns v (.int 0)
  | good (a : Addr) (cs : List Str) (h : Seq K H a (cs.map V.str)) (nd : cs.Nodup) (sub : ∀ x ∈ cs, x ∈ ns) : Chose K H ns (.ref a) .non
  | odd (a : Addr) (cs : List Str) (o : V) (more : List V) (h : Seq K H a (cs.map V.str ++ o :: more)) (nd : cs.Nodup) (sub : ∀ x ∈ cs, x ∈ ns) (ho : OddC K H ns cs o) : Chose K H ns (.ref a) (.int (cs.length : Nat))
section
variable {P : Program} {w : World} {K : PySem.W.Frag} {mg : Str → Option Value} {base : Heap}
def spBadChoiceAt (K : PySem.W.Frag) : Sp := fun vs H Q _ => ∃ (v r : V) (b : Addr) (ns : List Str), vs = [v, .ref b] ∧ SqL K H b (ns.map V.str) ∧ ns.Nodup ∧ ns.length ≤ 1000 ∧ Chose K H ns v r ∧ ∀ H', Same H H' → Q r H'
theorem scBadChoiceAt : FnScope ["things", "names", "left", "at", "thing", "name"] ["things", "names"] (defScope sBadChoiceAt) := ⟨rfl, rfl, rfl, by decide +kernel, rfl, by decide +kernel, by decide +kernel⟩
theorem ok_bad_choice_at {f fl : Addr} {fd fdl : FuncData} (F : Fun K "bad_choice_at" "bad_choice_at" sBadChoiceAt f fd) (GL : FnOk P w K mg base CX0 1 fl fdl ["thing"] (spIsList K))
    (bL : Binds K fdl ["thing"] []) (kL : PySem.W.keepIn K (.ref fl) = true) (mL : mg "is_list" = some (.ref fl)) (me : mg "enumerate" = none) (mi : mg "isinstance" = none) (m1 : mg "str" = none) :
    FnOk P w K mg base CX0 2 f fd ["things", "names"] (spBadChoiceAt K) := by
  refine F.ok scBadChoiceAt (fun vs H Q E h => ?_) (fun cdv A outer s H vs Q E hr h => ?_)
  · obtain ⟨v, r, b, ns, rfl, _⟩ := h
    rfl
  obtain ⟨v, r, b, ns, rfl, hB, hnd, hlen, hC, q⟩ := h
  have hu := hu_of hr
  refine ⟨_, pss_cons (ps_if (pt_not (pt_val (pe_call GL hr rfl mL kL bL .nil pass0 (pa_cons (pv 0) pa_nil)))) (pss_one (ps_ret pe_int)) pss_nil)
    (pss_cons (ps_setDcO (.inl rfl) (i := 2) (own := [("name", 5)]) (g := gName 5) rfl (Nat.lt_of_succ_lt hu) scBadChoiceAt.nd rfl rfl (swd_true rfl rfl rfl rfl) (pi_list (pv 1)) (blkOk_by (N := ["things", "names", "left", "at", "thing", "name"]) (sc := defScope sBadChoiceAt) (by decide +kernel))
        (fun _ _ _ _ _ => pg_name (i := 5) scBadChoiceAt.nd rfl (Or.inl rfl)) (fun _ _ _ _ _ => pts_nil) (fun _ _ _ _ _ => pv 5) (fun _ _ _ _ _ => pe_bl))
    (pss_cons (ps_for PassesOwn.never rfl (pi_enumS rfl me (pa_cons (pv 0) pa_nil)) (pg_tup rfl (pgs_cons (pg_name (i := 3) scBadChoiceAt.nd rfl (Or.inl rfl)) (pgs_cons (pg_name (i := 4) scBadChoiceAt.nd rfl (Or.inl rfl)) pgs_nil)))
      (pss_cons (ps_if (PW.pt (pw_or (pt_not (pt_val (pe_callB call_isi rfl mi (by decide +kernel) (pa_cons (pv 4) (pa_cons (pe_bltn (v := .ty "str") rfl m1 (by decide +kernel) rfl) pa_nil))))) (pw_or1 (pt_cmp (pc_dnotin hu (pv 4) (pv 2)))))) (pss_one (ps_ret (pv 3))) pss_nil)
      (pss_one (ps_ddel (pv 2) (pv 4)))))
    (pss_one (ps_ret pe_non)))), ?_⟩
  have k1 : PySem.W.kitOne K (.type "str") (.type "str") = some true := kit_ty (by decide +kernel)
  have cases : (∃ n, Ty K H v n ∧ isSeqN n = false ∧ r = .int 0) ∨ ∃ (a : Addr) (cs : List Str) (rest : List V), v = .ref a ∧ Seq K H a (cs.map V.str ++ rest) ∧ cs.Nodup ∧ (∀ x ∈ cs, x ∈ ns) ∧ (rest = [] → r = .non) ∧ ∀ o more, rest = o :: more → OddC K H ns cs o ∧ r = .int (cs.length : Nat) := by
    cases hC with
    | none _ n h hn => exact .inl ⟨n, h, hn, rfl⟩
    | good a cs h nd sub => exact .inr ⟨a, cs, [], rfl, by rw [List.append_nil]; exact h, nd, sub, fun _ => rfl, (fun o more e => by cases e)⟩
    | odd a cs o more h nd sub ho => exact .inr ⟨a, cs, o :: more, rfl, h, nd, sub, (fun e => by cases e), (fun o' m' e => by cases e; exact ⟨ho, rfl⟩)⟩
  rcases cases with ⟨n, hT, hn, rfl⟩ | ⟨a, cs, rest, rfl, hS, nd, sub, hr0, hr1⟩
  · refine ⟨_, rfl, v, n, rfl, hT, fun H1 s1 => ⟨_, rfl, ?_⟩⟩
    rw [hn]
    exact (if_pos rfl).mpr (q H1 s1)
  obtain ⟨n, hT, hn, _⟩ := seq_ty hS
  refine ⟨_, rfl, .ref a, n, rfl, hT, fun H1 s1 => ⟨_, rfl, ?_⟩⟩
  rw [hn]
  refine (if_neg (by decide)).mpr ?_
  have e0 : (ns.map V.str).length = ns.length := List.length_map _
  refine ⟨_, rfl, b, rfl, ⟨_, s1.seq hB⟩, fun d hd => ?_⟩
  refine turns_it (walk_list (K := K) (a := b) (xs := ns.map V.str)) (fun i H' => Same H1 H' ∧ H' d = some (.dK (marks (ns.take i)))) ⟨same_new hd _, upd_same⟩ (fun i H' _ h => (s1.trans h.1).seq hB) ?_ ?_
  · rintro i x H2 H3 hi ⟨s2, hd2⟩ ⟨rfl, hx⟩
    obtain ⟨c, hc, rfl⟩ := at_map hx
    have ln : (marks (ns.take i)).length < sizeLine := by
      rw [marks_len, List.length_take]
      exact small1000 (by omega)
    have p := DPut.k (v := .bl true) (k := .inr c) hd2 ln
    rw [marks_put (not_before hnd hc), ← take_snoc hc] at p
    refine ⟨rfl, _, rfl, _, p, fun b o e => ?_, upd_same⟩
    rw [upd_ne (ne_of_none e hd)]
    exact s2 _ _ e
  rintro H2 ⟨s2, hd2⟩
  rw [e0, List.take_length] at hd2
  obtain ⟨J, G, hJ, wk, hG⟩ := enumJ_of (Seq.same hS s1)
  have lc : (cs.map V.str).length = cs.length := List.length_map _
  refine ⟨_, rfl, a, _, J, rfl, EnJ.same hJ s2, for_it wk (fun i σ' H' => i ≤ cs.length ∧ ∃ u z x : Option V, σ' = [some (.ref a), some (.ref b), some (.ref d), u, z, x] ∧ Same H1 H' ∧ (∀ b o, H2 b = some o → b ≠ d → H' b = some o) ∧ H' d = some (.dK (marks (ns.filter fun y => decide (y ∉ cs.take i))))) ?_ ?_ ?_ ?_⟩
  · refine ⟨Nat.zero_le _, none, none, none, rfl, s2, fun _ _ e _ => e, ?_⟩
    rw [hd2, List.filter_eq_self.mpr fun y _ => by rw [List.take_zero]; exact decide_eq_true List.not_mem_nil]
  · rintro i σ' H' hi ⟨hic, u, z, x, rfl, s3, s3', hd3⟩
    exact hG H' s3
  · rintro i x σ' H3 H4 hi ⟨hic, u, z, y, rfl, s3, s3', hd3⟩ ⟨T, y1, y2, rfl, hT3, rfl, ey, ez⟩
    cases ey
    have dT : (upd H3 T (.tup [.int (i : Nat), y2])) d = some (.dK (marks (ns.filter fun y => decide (y ∉ cs.take i)))) := by rw [upd_ne (ne_of_none hd3 hT3)]; exact hd3
    have s4 : Same H1 (upd H3 T (.tup [.int (i : Nat), y2])) := s3.trans (same_new hT3 _)
    refine ⟨T, _, rfl, SqT.of upd_same, rfl, _, _, rfl, _, _, rfl, rfl, ?_⟩
    by_cases hlt : i < cs.length
    · have ez : (cs.map V.str ++ rest)[i]? = some y2 := ez
      rw [List.getElem?_append_left (by rw [lc]; exact hlt)] at ez
      obtain ⟨c, hc, rfl⟩ := at_map ez
      have hcm : c ∈ cs := List.mem_of_getElem? hc
      have hni := not_before nd hc
      have hin : c ∈ ns.filter fun y => decide (y ∉ cs.take i) := List.mem_filter.mpr ⟨sub c hcm, decide_eq_true hni⟩
      refine ⟨_, rfl, .str c, .ty "str", _, _, true, rfl, ClsV.ty "str", .base (.str c), k1, true, rfl, ?_⟩
      refine (if_neg (by decide)).mpr ?_
      have g4 : DGet (upd H3 T (.tup [.int (i : Nat), .str c])) d (kV (.inr c)) (some (.bl true)) := by
        have z := DGet.k (k := .inr c) dT
        rw [marks_in hin] at z
        exact z
      refine ⟨_, rfl, _, rfl, d, _, rfl, g4, false, rfl, ?_⟩
      refine (if_neg (by decide)).mpr ?_
      refine ⟨_, rfl, _, rfl, d, _, .inr c, rfl, dT, rfl, by rw [marks_in hin]; rfl, hlt, _, _, _, rfl, fun b o e => ?_, fun b o e nb => ?_, ?_⟩
      · rw [upd_ne (ne_of_none e hd)]
        exact s4 _ _ e
      · rw [upd_ne nb]
        exact same_new hT3 _ _ _ (s3' b o e nb)
      · rw [upd_same, marks_drop, List.filter_filter, take_snoc hc]
        congr 3
        refine List.filter_congr fun y _ => ?_
        rw [Bool.eq_iff_iff]
        simp only [Bool.and_eq_true, decide_eq_true_eq, List.mem_append, List.mem_singleton, not_or]
        exact And.comm
    · have hi2 : i = cs.length := by omega
      subst hi2
      have ez : (cs.map V.str ++ rest)[cs.length]? = some y2 := ez
      rw [List.getElem?_append_right (by rw [lc]; exact Nat.le_refl _), lc, Nat.sub_self] at ez
      obtain ⟨more, rfl⟩ : ∃ more, rest = y2 :: more := by
        cases rest with
        | nil => simp at ez
        | cons o more => exact ⟨more, by simp at ez; rw [ez]⟩
      obtain ⟨ho, rfl⟩ := hr1 _ _ rfl
      rcases OddC.same ho (s1.trans s4) with ⟨n', t', ne'⟩ | ⟨z', rfl, hz'⟩
      · have k2 : PySem.W.kitOne K (.type n') (.type "str") = some false := by
          rw [kit_one (K := K) t'.m (c := "str") (by simp)]
          have h1 : (n' == "str") = false := by simpa using ne'
          rw [h1]
          cases (n' == "bool") <;> rfl
        refine ⟨_, rfl, y2, .ty "str", _, _, false, rfl, ClsV.ty "str", t'.h, k2, false, rfl, ?_⟩
        refine (if_pos rfl).mpr ?_
        refine (if_pos rfl).mpr ?_
        exact ⟨_, rfl, q _ (s1.trans s4)⟩
      · refine ⟨_, rfl, .str z', .ty "str", _, _, true, rfl, ClsV.ty "str", .base (.str z'), k1, true, rfl, ?_⟩
        refine (if_neg (by decide)).mpr ?_
        have hno : z' ∉ ns.filter fun y => decide (y ∉ cs.take cs.length) := fun hm => by
          obtain ⟨m1, m2⟩ := List.mem_filter.mp hm
          rw [List.take_length] at m2
          exact hz'.elim (fun w => w m1) fun w => of_decide_eq_true m2 w
        have g4 : DGet (upd H3 T (.tup [.int (cs.length : Nat), .str z'])) d (kV (.inr z')) none := by
          have z := DGet.k (k := .inr z') dT
          rw [marks_not hno] at z
          exact z
        refine ⟨_, rfl, _, rfl, d, _, rfl, g4, true, rfl, ?_⟩
        refine (if_pos rfl).mpr ?_
        exact ⟨_, rfl, q _ (s1.trans s4)⟩
  · rintro σ' H' ⟨hic, u, z, x, rfl, s3, s3', hd3⟩
    rw [List.length_append, lc] at hic
    have e1 : rest = [] := List.eq_nil_of_length_eq_zero (by omega)
    have e2 := hr0 e1
    subst e2
    exact q H' (s1.trans s3)
end
end Rw
set_option Elab.async false
set_option linter.all false
set_option maxRecDepth 100000
set_option maxHeartbeats 4000000
namespace Rw
open PySem L2
abbrev sIsUpper : Stmt := top 10
abbrev sCodeOf : Stmt := top 11
abbrev sUpperOf : Stmt := top 12
abbrev sTighter : Stmt := top 13
abbrev sCodeSum : Stmt := top 14
/-! ### codes -/
abbrev Code' := Option Int
def cv : Code' → V
  | none => .non
  | some c => .int c
def codeB (b : Bd) : Int := if b.2 = 1 then 2 * b.1 else 2 * b.1 + 1
def boundC (c : Int) : Bd := (c.fdiv 2, if c % 2 = 1 then 0 else 1)
def tightC : Code' → Code' → Code'
  | none, y => y
  | some a, none => some a
  | some a, some b => if a < b then some a else some b
def sumC : Code' → Code' → Code'
  | some a, some b => if a % 2 = 1 ∨ b % 2 = 1 then some (a + b - 1) else some (a + b)
  | _, _ => none
theorem rIx_seq {K : PySem.W.Frag} {H : Hp} {a : Addr} {xs : List V} {i : Int} {v : V} {Q : VK} (h : Seq K H a xs) (e : atI xs i = some v) (q : Q v H) : rIx K (.ref a) (.int i) H Q :=
  h.elim (fun z => .inl ⟨a, xs, _, _, rfl, rfl, z, e, q⟩) fun z => .inr (.inl ⟨a, xs, _, _, rfl, rfl, z, e, q⟩)
theorem word_in (s : Int) : inV (wordV s) [.str "upto", .str "below"] = true := by
  unfold wordV
  split <;> decide +kernel
section
variable {P : Program} {w : World} {K : PySem.W.Frag} {mg : Str → Option Value} {base : Heap}
def spIsUpper (K : PySem.W.Frag) : Sp := fun vs H Q _ => ∃ v : V, vs = [v] ∧ (v = .non ∨ ∃ (a : Addr) (n s : Int), v = .ref a ∧ Seq K H a [wordV s, .int n]) ∧ ∀ H', Same H H' → Q (.bl true) H'
theorem scIsUpper : FnScope ["thing"] ["thing"] (defScope sIsUpper) := ⟨rfl, rfl, rfl, by decide +kernel, rfl, by decide +kernel, by decide +kernel⟩
theorem ok_is_upper {f fl fi : Addr} {fd fdl fdi : FuncData} (F : Fun K "is_upper" "is_upper" sIsUpper f fd) (GL : FnOk P w K mg base CX0 1 fl fdl ["thing"] (spIsList K)) (GI : FnOk P w K mg base CX0 1 fi fdi ["thing"] (spIsInteger K))
    (bL : Binds K fdl ["thing"] []) (bI : Binds K fdi ["thing"] []) (kL : PySem.W.keepIn K (.ref fl) = true) (kI : PySem.W.keepIn K (.ref fi) = true) (mL : mg "is_list" = some (.ref fl)) (mI : mg "is_integer" = some (.ref fi)) (ml : mg "len" = none) :
    FnOk P w K mg base CX0 2 f fd ["thing"] (spIsUpper K) := by
  refine F.ok scIsUpper (fun vs H Q E h => ?_) (fun cdv A outer s H vs Q E hr h => ?_)
  · obtain ⟨v, rfl, _⟩ := h
    rfl
  obtain ⟨v, rfl, hv, q⟩ := h
  refine ⟨_, pss_cons (ps_if (pt_cmpR op_isN (pv 0) pe_non (nomark _)) (pss_one (ps_ret pe_bl)) pss_nil)
    (pss_cons (ps_if (PW.pt (pw_or (pt_not (pt_val (pe_call GL hr rfl mL kL bL .nil pass0 (pa_cons (pv 0) pa_nil)))) (pw_or1 (pt_cmpR op_ne (pe_callB call_len_seq rfl ml PySem.boot_len (pa_cons (pv 0) pa_nil)) pe_int (nomark _))))) (pss_one (ps_ret pe_bl)) pss_nil)
    (pss_one (ps_ret (pe_and (pe_cmpR op_in_seq (pe_ix ix_seq (pv 0) pe_int (fun _ _ => rfl)) (pe_tup (pa_cons pe_str (pa_cons pe_str pa_nil))) rfl)
      (pe_one (pe_call GI hr rfl mI kI bI .nil pass0 (pa_cons (pe_ix ix_seq (pv 0) pe_int (fun _ _ => rfl)) pa_nil))))))), ?_⟩
  rcases hv with rfl | ⟨a, n, sg, rfl, hS⟩
  · refine ⟨_, rfl, rfl, true, rfl, ?_⟩
    exact (if_pos rfl).mpr (q H (Same.refl H))
  · refine ⟨_, rfl, rfl, false, rfl, ?_⟩
    refine (if_neg (by decide)).mpr ?_
    obtain ⟨n', hT, hn, _⟩ := seq_ty hS
    refine ⟨_, rfl, .ref a, n', rfl, hT, fun H1 s1 => ⟨_, rfl, ?_⟩⟩
    rw [hn]
    refine (if_neg (by decide)).mpr ?_
    have hS1 := Seq.same hS s1
    have at0 : atI [wordV sg, .int n] 0 = some (wordV sg) := rfl
    have at1 : atI [wordV sg, .int n] 1 = some (.int n) := rfl
    refine ⟨_, rfl, a, _, rfl, hS1, rfl, _, rfl, ?_⟩
    refine (if_neg (by show ¬ (!decide (V.int ((2 : Nat) : Int) = V.int 2)) = true; decide)).mpr ?_
    refine ⟨_, rfl, rIx_seq hS1 at0 ?_⟩
    refine ⟨(by show 2 ≤ sizeLine; decide), fun p hp => ?_⟩
    have s2 : Same H1 (upd H1 p (.tup [.str "upto", .str "below"])) := same_new hp _
    refine ⟨p, _, rfl, .inr (SqT.of upd_same), by unfold wordV; rfl, rfl, true, by rw [word_in]; rfl, ?_⟩
    refine (if_pos rfl).mpr ?_
    refine ⟨_, rfl, rIx_seq (Seq.same hS1 s2) at1 ?_⟩
    refine ⟨.int n, "int", rfl, ⟨.base (.int n), by unfold K7; simp⟩, ?_⟩
    exact q _ (s1.trans s2)
end
end Rw
set_option Elab.async false
set_option linter.all false
set_option maxRecDepth 100000
set_option maxHeartbeats 4000000
namespace Rw
open PySem L2
section
variable {P : Program} {w : World} {K : PySem.W.Frag} {mg : Str → Option Value} {base : Heap}
def spCodeOf (K : PySem.W.Frag) : Sp := fun vs H Q _ => ∃ v : V, vs = [v] ∧ ((v = .non ∧ Q .non H) ∨ ∃ (a : Addr) (b : Bd), v = .ref a ∧ Seq K H a [wordV b.2, .int b.1] ∧ Q (.int (codeB b)) H)
theorem scCodeOf : FnScope ["bound"] ["bound"] (defScope sCodeOf) := ⟨rfl, rfl, rfl, by decide +kernel, rfl, by decide +kernel, by decide +kernel⟩
theorem ok_code_of {f : Addr} {fd : FuncData} (F : Fun K "code_of" "code_of" sCodeOf f fd) : FnOk P w K mg base CX0 1 f fd ["bound"] (spCodeOf K) := by
  refine F.ok scCodeOf (fun vs H Q E h => ?_) (fun cdv A outer s H vs Q E hr h => ?_)
  · obtain ⟨v, rfl, _⟩ := h
    rfl
  obtain ⟨v, rfl, hv⟩ := h
  refine ⟨_, pss_cons (ps_if (pt_cmpR op_isN (pv 0) pe_non (nomark _)) (pss_one (ps_ret pe_non)) pss_nil)
    (pss_cons (ps_if (pt_cmpR op_eq (pe_ix ix_seq (pv 0) pe_int (fun _ _ => rfl)) pe_str (nomark _)) (pss_one (ps_ret (pe_op op_add (pe_op op_mul pe_int (pe_ix ix_seq (pv 0) pe_int (fun _ _ => rfl))) pe_int))) pss_nil)
    (pss_one (ps_ret (pe_op op_mul pe_int (pe_ix ix_seq (pv 0) pe_int (fun _ _ => rfl)))))), ?_⟩
  rcases hv with ⟨rfl, q⟩ | ⟨a, ⟨n, sg⟩, rfl, hS, q⟩
  · refine ⟨_, rfl, rfl, true, rfl, ?_⟩
    exact (if_pos rfl).mpr q
  · have at0 : atI [wordV sg, .int n] 0 = some (wordV sg) := rfl
    have at1 : atI [wordV sg, .int n] 1 = some (.int n) := rfl
    refine ⟨_, rfl, rfl, false, rfl, ?_⟩
    refine (if_neg (by decide)).mpr ?_
    refine ⟨_, rfl, rIx_seq hS at0 ?_⟩
    refine ⟨by unfold wordV; rfl, _, rfl, ?_⟩
    unfold codeB at q
    refine ite2 (fun c => ?_) (fun c => ?_)
    · have hs : ¬ sg = 1 := fun e => by
        rw [e] at c
        revert c
        decide +kernel
      rw [if_neg hs] at q
      refine ⟨_, rfl, rIx_seq hS at1 ?_⟩
      exact ⟨_, _, rfl, rfl, .inl (by decide), _, _, rfl, rfl, q⟩
    · have hs : sg = 1 := by
        by_cases e : sg = 1
        · exact e
        · refine absurd ?_ c
          unfold wordV
          rw [if_neg e]
          decide +kernel
      rw [if_pos hs] at q
      refine ⟨_, rfl, rIx_seq hS at1 ?_⟩
      exact ⟨_, _, rfl, rfl, .inl (by decide), q⟩
def spUpperOf : Sp := fun vs H Q _ => ∃ c : Code', vs = [cv c] ∧ (c = none → Q .non H) ∧ ∀ k, c = some k → ∀ r, H r = none → Q (.ref r) (upd H r (.tup [wordV (boundC k).2, .int (boundC k).1]))
theorem scUpperOf : FnScope ["code"] ["code"] (defScope sUpperOf) := ⟨rfl, rfl, rfl, by decide +kernel, rfl, by decide +kernel, by decide +kernel⟩
theorem ok_upper_of {f : Addr} {fd : FuncData} (F : Fun K "upper_of" "upper_of" sUpperOf f fd) : FnOk P w K mg base CX0 1 f fd ["code"] spUpperOf := by
  refine F.ok scUpperOf (fun vs H Q E h => ?_) (fun cdv A outer s H vs Q E hr h => ?_)
  · obtain ⟨v, rfl, _⟩ := h
    rfl
  obtain ⟨c, rfl, q0, q1⟩ := h
  refine ⟨_, pss_cons (ps_if (pt_cmpR op_isN (pv 0) pe_non (nomark _)) (pss_one (ps_ret pe_non)) pss_nil)
    (pss_cons (ps_if (pt_cmpR op_eq (pe_op op_mod (pv 0) pe_int) pe_int (nomark _)) (pss_one (ps_ret (pe_tup (pa_cons pe_str (pa_cons (pe_op op_fdivN (pv 0) pe_int) pa_nil))))) pss_nil)
    (pss_one (ps_ret (pe_tup (pa_cons pe_str (pa_cons (pe_op op_fdivN (pv 0) pe_int) pa_nil)))))), ?_⟩
  cases c with
  | none =>
    refine ⟨_, rfl, rfl, true, rfl, ?_⟩
    exact (if_pos rfl).mpr (q0 rfl)
  | some k =>
    have q1 := q1 k rfl
    refine ⟨_, rfl, rfl, false, rfl, ?_⟩
    refine (if_neg (by decide)).mpr ?_
    refine ⟨_, rfl, _, _, rfl, rfl, (by show (0 : Int) < 2; decide), rfl, _, rfl, ?_⟩
    unfold boundC wordV at q1
    dsimp only at q1
    refine ite2 (fun e => ?_) (fun e => ?_)
    · have hk : k % 2 = 1 := by
        have z := of_decide_eq_true e
        injection z
      rw [if_pos hk, if_neg (show ¬ (0 : Int) = 1 by decide)] at q1
      exact ⟨_, rfl, _, _, rfl, rfl, ⟨by decide, by decide⟩, (by show 2 ≤ sizeLine; decide), fun p hp => q1 p hp⟩
    · have hk : ¬ k % 2 = 1 := fun z => e (decide_eq_true (show V.int (k % 2) = V.int 1 by rw [z]))
      rw [if_neg hk, if_pos rfl] at q1
      exact ⟨_, rfl, _, _, rfl, rfl, ⟨by decide, by decide⟩, (by show 2 ≤ sizeLine; decide), fun p hp => q1 p hp⟩
def spTighter : Sp := fun vs H Q _ => ∃ x y : Code', vs = [cv x, cv y] ∧ Q (cv (tightC x y)) H
theorem scTighter : FnScope ["one", "other"] ["one", "other"] (defScope sTighter) := ⟨rfl, rfl, rfl, by decide +kernel, rfl, by decide +kernel, by decide +kernel⟩
theorem ok_tighter {f : Addr} {fd : FuncData} (F : Fun K "tighter_code" "tighter_code" sTighter f fd) : FnOk P w K mg base CX0 1 f fd ["one", "other"] spTighter := by
  refine F.ok scTighter (fun vs H Q E h => ?_) (fun cdv A outer s H vs Q E hr h => ?_)
  · obtain ⟨x, y, rfl, _⟩ := h
    rfl
  obtain ⟨x, y, rfl, q⟩ := h
  refine ⟨_, pss_cons (ps_if (pt_cmpR op_isN (pv 0) pe_non (nomark _)) (pss_one (ps_ret (pv 1))) pss_nil)
    (pss_cons (ps_if (PW.pt (pw_or (pt_cmpR op_isN (pv 1) pe_non (nomark _)) (pw_or1 (pt_cmpR op_lt (pv 0) (pv 1) (nomark _))))) (pss_one (ps_ret (pv 0))) pss_nil)
    (pss_one (ps_ret (pv 1)))), ?_⟩
  cases x with
  | none => exact ⟨_, rfl, rfl, true, rfl, (if_pos rfl).mpr ⟨_, rfl, q⟩⟩
  | some a =>
    refine ⟨_, rfl, rfl, false, rfl, (if_neg (by decide)).mpr ?_⟩
    cases y with
    | none => exact ⟨_, rfl, rfl, true, rfl, (if_pos rfl).mpr ((if_pos rfl).mpr ⟨_, rfl, q⟩)⟩
    | some b =>
      refine ⟨_, rfl, rfl, false, rfl, (if_neg (by decide)).mpr ?_⟩
      refine ⟨_, rfl, _, rfl, _, _, rfl, rfl, _, rfl, ?_⟩
      have q : Q (cv (if a < b then some a else some b)) H := q
      refine ite2 (fun e => ?_) (fun e => ?_)
      · rw [if_pos (of_decide_eq_true e)] at q
        exact ⟨_, rfl, q⟩
      · rw [if_neg fun z => e (decide_eq_true z)] at q
        exact ⟨_, rfl, q⟩
def spCodeSum : Sp := fun vs H Q _ => ∃ x y : Code', vs = [cv x, cv y] ∧ Q (cv (sumC x y)) H
theorem scCodeSum : FnScope ["one", "other"] ["one", "other"] (defScope sCodeSum) := ⟨rfl, rfl, rfl, by decide +kernel, rfl, by decide +kernel, by decide +kernel⟩
theorem ok_code_sum {f : Addr} {fd : FuncData} (F : Fun K "code_sum" "code_sum" sCodeSum f fd) : FnOk P w K mg base CX0 1 f fd ["one", "other"] spCodeSum := by
  refine F.ok scCodeSum (fun vs H Q E h => ?_) (fun cdv A outer s H vs Q E hr h => ?_)
  · obtain ⟨x, y, rfl, _⟩ := h
    rfl
  obtain ⟨x, y, rfl, q⟩ := h
  refine ⟨_, pss_cons (ps_if (PW.pt (pw_or (pt_cmpR op_isN (pv 0) pe_non (nomark _)) (pw_or1 (pt_cmpR op_isN (pv 1) pe_non (nomark _))))) (pss_one (ps_ret pe_non)) pss_nil)
    (pss_cons (ps_if (PW.pt (pw_or (pt_cmpR op_eq (pe_op op_mod (pv 0) pe_int) pe_int (nomark _)) (pw_or1 (pt_cmpR op_eq (pe_op op_mod (pv 1) pe_int) pe_int (nomark _))))) (pss_one (ps_ret (pe_op op_sub (pe_op op_add (pv 0) (pv 1)) pe_int))) pss_nil)
    (pss_one (ps_ret (pe_op op_add (pv 0) (pv 1))))), ?_⟩
  cases x with
  | none => exact ⟨_, rfl, rfl, true, rfl, (if_pos rfl).mpr ((if_pos rfl).mpr q)⟩
  | some a =>
    refine ⟨_, rfl, rfl, false, rfl, (if_neg (by decide)).mpr ?_⟩
    cases y with
    | none => exact ⟨_, rfl, rfl, true, rfl, (if_pos rfl).mpr q⟩
    | some b =>
      refine ⟨_, rfl, rfl, false, rfl, (if_neg (by decide)).mpr ?_⟩
      have q : Q (cv (if a % 2 = 1 ∨ b % 2 = 1 then some (a + b - 1) else some (a + b))) H := q
      refine ⟨_, rfl, _, _, rfl, rfl, (by show (0 : Int) < 2; decide), rfl, _, rfl, ?_⟩
      refine ite2 (fun e => ?_) (fun e => ?_)
      · have ha : a % 2 = 1 := by
          have z := of_decide_eq_true e
          injection z
        rw [if_pos (.inl ha)] at q
        refine (if_pos rfl).mpr ?_
        exact ⟨_, rfl, _, rfl, _, _, rfl, rfl, _, _, rfl, rfl, q⟩
      · have ha : ¬ a % 2 = 1 := fun z => e (decide_eq_true (show V.int (a % 2) = V.int 1 by rw [z]))
        refine ⟨_, rfl, _, _, rfl, rfl, (by show (0 : Int) < 2; decide), rfl, _, rfl, ?_⟩
        refine ite2 (fun e => ?_) (fun e => ?_)
        · have hb : b % 2 = 1 := by
            have z := of_decide_eq_true e
            injection z
          rw [if_pos (.inr hb)] at q
          exact ⟨_, rfl, _, rfl, _, _, rfl, rfl, _, _, rfl, rfl, q⟩
        · have hb : ¬ b % 2 = 1 := fun z => e (decide_eq_true (show V.int (b % 2) = V.int 1 by rw [z]))
          rw [if_neg (fun z => z.elim ha hb)] at q
          exact ⟨_, rfl, _, rfl, _, _, rfl, rfl, q⟩
end
end Rw
set_option Elab.async false
set_option linter.all false
set_option maxRecDepth 100000
set_option maxHeartbeats 4000000
namespace Rw
open PySem L2
abbrev sIsSpot : Stmt := top 23
abbrev sIsSpotPair : Stmt := top 24
abbrev sOrdered : Stmt := top 25
abbrev spots (ns : List Str) : List Str := ("" : Str) :: ns
theorem inV_str {z : Str} : ∀ {ns : List Str}, inV (.str z) (ns.map V.str) = decide (z ∈ ns)
  | [] => by simp [inV]
  | n :: ns => by
    have ih := inV_str (z := z) (ns := ns)
    unfold inV at ih ⊢
    rw [List.map_cons, List.any_cons, ih]
    have e : eqV (.str n) (.str z) = decide (n = z) := rfl
    rw [e, Bool.eq_iff_iff]
    simp only [Bool.or_eq_true, decide_eq_true_eq, List.mem_cons]
    exact ⟨fun h => h.imp Eq.symm id, fun h => h.imp Eq.symm id⟩
theorem flat_strs {ns : List Str} : (ns.map V.str).all flatV = true := by
  rw [List.all_map]
  exact List.all_eq_true.mpr fun _ _ => rfl
section
variable {P : Program} {w : World} {K : PySem.W.Frag} {mg : Str → Option Value} {base : Heap}
def spIsSpot (K : PySem.W.Frag) : Sp := fun vs H Q _ => ∃ (l : Addr) (ns : List Str) (z : Str), vs = [.ref l, .str z] ∧ SqL K H l (ns.map V.str) ∧ Q (.bl (decide (z ∈ spots ns))) H
theorem scIsSpot : FnScope ["names", "thing"] ["names", "thing"] (defScope sIsSpot) := ⟨rfl, rfl, rfl, by decide +kernel, rfl, by decide +kernel, by decide +kernel⟩
theorem ok_is_spot {f : Addr} {fd : FuncData} (F : Fun K "is_spot" "is_spot" sIsSpot f fd) (mi : mg "isinstance" = none) (m1 : mg "str" = none) : FnOk P w K mg base CX0 1 f fd ["names", "thing"] (spIsSpot K) := by
  refine F.ok scIsSpot (fun vs H Q E h => ?_) (fun cdv A outer s H vs Q E hr h => ?_)
  · obtain ⟨l, ns, z, rfl, _⟩ := h
    rfl
  obtain ⟨l, ns, z, rfl, hS, q⟩ := h
  refine ⟨_, pss_one (ps_ret (pe_and (pe_callB call_isi rfl mi (by decide +kernel) (pa_cons (pv 1) (pa_cons (pe_bltn (v := .ty "str") rfl m1 (by decide +kernel) rfl) pa_nil)))
    (pe_one (pe_or (pe_cmpR op_eq (pv 1) pe_str (nomark _)) (pe_one (pe_cmpR op_in_seq (pv 1) (pv 0) rfl)))))), ?_⟩
  have k1 : PySem.W.kitOne K (.type "str") (.type "str") = some true := kit_ty (by decide +kernel)
  refine ⟨_, rfl, .str z, .ty "str", _, _, true, rfl, ClsV.ty "str", .base (.str z), k1, true, rfl, ?_⟩
  refine (if_pos rfl).mpr ?_
  refine ⟨_, rfl, rfl, _, rfl, ?_⟩
  refine ite2 (fun c => ?_) (fun c => ?_)
  · have e : z = "" := by
      have z1 := of_decide_eq_true c
      injection z1
    subst e
    have y : decide (("" : Str) ∈ spots ns) = true := decide_eq_true List.mem_cons_self
    rw [y] at q
    exact q
  · have e : ¬ z = "" := fun e => c (decide_eq_true (by rw [e]))
    refine ⟨_, rfl, _, rfl, l, _, rfl, .inl hS, rfl, flat_strs, ?_⟩
    rw [if_neg Bool.false_ne_true, inV_str]
    have y : decide (z ∈ spots ns) = decide (z ∈ ns) := by
      rw [Bool.eq_iff_iff]
      simp only [decide_eq_true_eq, List.mem_cons]
      exact ⟨fun h => h.resolve_left e, .inr⟩
    rw [y] at q
    exact q
/-- a pair of unlike spots -/
def spIsSpotPair (K : PySem.W.Frag) : Sp := fun vs H Q _ => ∃ (l a : Addr) (ns : List Str) (p : Pr), vs = [.ref l, .ref a] ∧ SqL K H l (ns.map V.str) ∧ H a = some (.tup [.str p.1, .str p.2]) ∧ p.1 ∈ spots ns ∧ p.2 ∈ spots ns ∧ p.1 ≠ p.2 ∧ Q (.bl true) H
theorem scIsSpotPair : FnScope ["names", "thing"] ["names", "thing"] (defScope sIsSpotPair) := ⟨rfl, rfl, rfl, by decide +kernel, rfl, by decide +kernel, by decide +kernel⟩
theorem ok_is_spot_pair {f fs : Addr} {fd fds : FuncData} (F : Fun K "is_spot_pair" "is_spot_pair" sIsSpotPair f fd) (GS : FnOk P w K mg base CX0 1 fs fds ["names", "thing"] (spIsSpot K)) (bS : Binds K fds ["names", "thing"] []) (kS : PySem.W.keepIn K (.ref fs) = true) (mS : mg "is_spot" = some (.ref fs))
    (mi : mg "isinstance" = none) (m1 : mg "tuple" = none) (ml : mg "len" = none) : FnOk P w K mg base CX0 2 f fd ["names", "thing"] (spIsSpotPair K) := by
  refine F.ok scIsSpotPair (fun vs H Q E h => ?_) (fun cdv A outer s H vs Q E hr h => ?_)
  · obtain ⟨l, a, ns, p, rfl, _⟩ := h
    rfl
  obtain ⟨l, a, ns, p, rfl, hS, ha, h1, h2, hne, q⟩ := h
  refine ⟨_, pss_cons (ps_if (PW.pt (pw_or (pt_not (pt_val (pe_callB call_isi rfl mi (by decide +kernel) (pa_cons (pv 1) (pa_cons (pe_bltn (v := .ty "tuple") rfl m1 (by decide +kernel) rfl) pa_nil))))) (pw_or1 (pt_cmpR op_ne (pe_callB call_len_seq rfl ml PySem.boot_len (pa_cons (pv 1) pa_nil)) pe_int (nomark _))))) pss_never pss_nil)
    (pss_one (ps_ret (pe_and (pe_call GS hr rfl mS kS bS .nil pass0 (pa_cons (pv 0) (pa_cons (pe_ix ix_tup (pv 1) pe_int (fun _ _ => rfl)) pa_nil)))
      (pe_and (pe_call GS hr rfl mS kS bS .nil pass0 (pa_cons (pv 0) (pa_cons (pe_ix ix_tup (pv 1) pe_int (fun _ _ => rfl)) pa_nil)))
      (pe_one (pe_cmpR op_ne (pe_ix ix_tup (pv 1) pe_int (fun _ _ => rfl)) (pe_ix ix_tup (pv 1) pe_int (fun _ _ => rfl)) (nomark _))))))), ?_⟩
  have k1 : PySem.W.kitOne K (.type "tuple") (.type "tuple") = some true := kit_ty (by decide +kernel)
  have at0 : atI [V.str p.1, .str p.2] 0 = some (.str p.1) := rfl
  have at1 : atI [V.str p.1, .str p.2] 1 = some (.str p.2) := rfl
  have hT : SqT K H a [.str p.1, .str p.2] := SqT.of ha
  refine ⟨_, rfl, .ref a, .ty "tuple", _, _, true, rfl, ClsV.ty "tuple", .base (.tup ha), k1, true, rfl, ?_⟩
  refine (if_neg (by decide)).mpr ?_
  refine ⟨_, rfl, a, _, rfl, .inr hT, rfl, _, rfl, ?_⟩
  refine (if_neg (by show ¬ (!decide (V.int ((2 : Nat) : Int) = V.int 2)) = true; decide)).mpr ?_
  refine ⟨_, rfl, _, rfl, a, _, _, _, rfl, rfl, hT, at0, ?_⟩
  refine ⟨l, ns, p.1, rfl, hS, true, by rw [decide_eq_true h1], ?_⟩
  refine (if_pos rfl).mpr ?_
  refine ⟨_, rfl, _, rfl, a, _, _, _, rfl, rfl, hT, at1, ?_⟩
  refine ⟨l, ns, p.2, rfl, hS, true, by rw [decide_eq_true h2], ?_⟩
  refine (if_pos rfl).mpr ?_
  refine ⟨_, rfl, a, _, _, _, rfl, rfl, hT, at0, _, rfl, a, _, _, _, rfl, rfl, hT, at1, rfl, ?_⟩
  rw [decide_eq_false (show ¬ V.str p.1 = V.str p.2 from fun e => hne (by injection e))]
  exact q
end
end Rw
set_option Elab.async false
set_option linter.all false
set_option maxRecDepth 100000
set_option maxHeartbeats 4000000
namespace Rw
open PySem L2
/-- turns over a walk, whatever is done in one -/
theorem walk_turns {J : It} {n : Nat} {G : Hp → Prop} {Y : Nat → Hp → V → Hp → Prop} {H1 : Hp} {Dn : Hp → Prop} {Body : V → Hp → (Hp → Prop) → Prop} (w : Walk J n G Y) (Pv : Nat → Hp → Prop) (h0 : Pv 0 H1) (hG : ∀ i H, i ≤ n → Pv i H → G H)
    (hs : ∀ i x H H', i < n → Pv i H → Y i H x H' → Body x H' (Pv (i + 1))) (hd : ∀ H, Pv n H → Dn H) :
    ∃ W : Nat → Nat → Hp → Prop, (∃ m, W 0 m H1) ∧ ∀ i m H, W i m H → (J.stop i H ∧ Dn H) ∨ (J.go i H ∧ ∃ Nx : Hp → Prop, (∀ H', Nx H' → ∃ m', m' < m ∧ W (i + 1) m' H') ∧ ∀ x H', J.yld i H x H' → Body x H' Nx) := by
  refine ⟨fun i m H => m = n - i ∧ i ≤ n ∧ Pv i H, ⟨n, rfl, Nat.zero_le _, h0⟩, ?_⟩
  rintro i m H ⟨rfl, hi, p⟩
  have q := hG i H hi p
  by_cases lt : i < n
  · exact .inr ⟨w.goes i H lt q, Pv (i + 1), fun H' p' => ⟨n - (i + 1), by omega, rfl, lt, p'⟩, fun x H' y => hs i x H H' lt p (w.yields i H x H' lt q y)⟩
  · have e : i = n := by omega
    subst e
    exact .inl ⟨w.stops H q, hd H p⟩
/-- a bound as it is handed: None, a tuple or a list -/
def RO (K : PySem.W.Frag) : Hp → V → Option Bd → Prop := fun H v b => (b = none ∧ v = .non) ∨ ∃ (bd : Bd) (a : Addr), b = some bd ∧ v = .ref a ∧ Seq K H a [wordV bd.2, .int bd.1]
/-- .. as it is kept: a tuple -/
def RW (K : PySem.W.Frag) : Hp → V → Bd → Prop := fun H v bd => ∃ a, v = .ref a ∧ SqT K H a [wordV bd.2, .int bd.1]
theorem RW.same {K : PySem.W.Frag} {H H' : Hp} {v : V} {b : Bd} (h : RW K H v b) (s : Same H H') : RW K H' v b := by
  obtain ⟨a, e, h⟩ := h
  exact ⟨a, e, sqT_same s h⟩
theorem RO.same {K : PySem.W.Frag} {H H' : Hp} {v : V} {b : Option Bd} (h : RO K H v b) (s : Same H H') : RO K H' v b := by
  rcases h with h | ⟨bd, a, e1, e2, h⟩
  · exact .inl h
  · exact .inr ⟨bd, a, e1, e2, Seq.same h s⟩
/-- all but d is as it was, and d is locked -/
structure Lk (H H' : Hp) (d : Addr) (od : Obj) (u : HO) : Prop where
  keep : ∀ b o, H b = some o → b ≠ d → H' b = some o
  at' : H' d = some (.frz od u)
theorem Lk.new {H H' : Hp} {d p : Addr} {od : Obj} {u o : HO} (h : Lk H H' d od u) (hp : H' p = none) : Lk H (upd H' p o) d od u :=
  ⟨fun b x e n => by rw [upd_ne (ne_of_none (h.keep b x e n) hp)]; exact h.keep b x e n, by rw [upd_ne (ne_of_none h.at' hp)]; exact h.at'⟩
theorem Lk.same {H H' H'' : Hp} {d : Addr} {od : Obj} {u : HO} (h : Lk H H' d od u) (s : Same H' H'') : Lk H H'' d od u := ⟨fun b x e n => s _ _ (h.keep b x e n), s _ _ h.at'⟩
theorem Lk.first {H : Hp} {d : Addr} {od : Obj} {u : HO} : Lk H (upd H d (.frz od u)) d od u := ⟨fun b x e n => by rw [upd_ne n]; exact e, upd_same⟩
theorem Lk.back {H H' : Hp} {d : Addr} {od : Obj} {u : HO} (h : Lk H H' d od u) (e : H d = some u) : Same H (upd H' d u) := fun b o eb => by
  by_cases n : b = d
  · subst n
    rw [e] at eb
    cases eb
    exact upd_same
  · rw [upd_ne n]
    exact h.keep b o eb n
theorem Lk.sqL {K : PySem.W.Frag} {H H' : Hp} {d a : Addr} {od : Obj} {kvs : List (List Key × V)} {xs : List V} (h : Lk H H' d od (.dT kvs)) (hd : H d = some (.dT kvs)) (hS : SqL K H a xs) : SqL K H' a xs := by
  rcases hS with (h1 | ⟨o, h1⟩) | h1
  · exact .inl (.inl (h.keep _ _ h1 (ne_of h1 hd fun z => nomatch z)))
  · exact .inl (.inr ⟨o, h.keep _ _ h1 (ne_of h1 hd fun z => nomatch z)⟩)
  · exact .inr h1
theorem Lk.sqT {K : PySem.W.Frag} {H H' : Hp} {d a : Addr} {od : Obj} {kvs : List (List Key × V)} {xs : List V} (h : Lk H H' d od (.dT kvs)) (hd : H d = some (.dT kvs)) (hS : SqT K H a xs) : SqT K H' a xs := by
  rcases hS with (h1 | ⟨o, h1⟩) | h1
  · exact .inl (.inl (h.keep _ _ h1 (ne_of h1 hd fun z => nomatch z)))
  · exact .inl (.inr ⟨o, h.keep _ _ h1 (ne_of h1 hd fun z => nomatch z)⟩)
  · exact .inr h1
theorem Lk.RO {K : PySem.W.Frag} {H H' : Hp} {d : Addr} {od : Obj} {kvs : List (List Key × V)} {v : V} {b : Option Bd} (h : Lk H H' d od (.dT kvs)) (hd : H d = some (.dT kvs)) (r : Rw.RO K H v b) : Rw.RO K H' v b := by
  rcases r with r | ⟨bd, a, e1, e2, r⟩
  · exact .inl r
  · exact .inr ⟨bd, a, e1, e2, r.elim (fun z => .inl (h.sqL hd z)) fun z => .inr (h.sqT hd z)⟩
/-- all pairs of the one with the other, in order -/
def crossP (ms ns : List Str) : List Pr := ms.flatMap fun a => ns.map fun b => (a, b)
theorem crossP_len (ms ns : List Str) : (crossP ms ns).length = ms.length * ns.length := by
  unfold crossP
  induction ms with
  | nil => simp
  | cons a ms ih => rw [List.flatMap_cons, List.length_append, List.length_map, ih, List.length_cons, Nat.succ_mul, Nat.add_comm]
theorem crossP_nd {ms ns : List Str} (h1 : ms.Nodup) (h2 : ns.Nodup) : (crossP ms ns).Nodup := by
  unfold crossP
  induction ms with
  | nil => exact List.nodup_nil
  | cons a ms ih =>
    obtain ⟨ha, hm⟩ := List.nodup_cons.mp h1
    rw [List.flatMap_cons]
    refine List.nodup_append.mpr ⟨?_, ih hm, fun x hx y hy e => ?_⟩
    · exact List.Pairwise.map _ (fun b c hbc e => hbc (by injection e)) h2
    · subst e
      obtain ⟨b, _, rfl⟩ := List.mem_map.mp hx
      obtain ⟨a', ha', h3⟩ := List.mem_flatMap.mp hy
      obtain ⟨b', _, e⟩ := List.mem_map.mp h3
      injection e with e1 _
      exact ha (e1 ▸ ha')
theorem mem_crossP {ms ns : List Str} {p : Pr} : p ∈ crossP ms ns ↔ p.1 ∈ ms ∧ p.2 ∈ ns := by
  unfold crossP
  constructor
  · intro h
    obtain ⟨a, ha, h⟩ := List.mem_flatMap.mp h
    obtain ⟨b, hb, rfl⟩ := List.mem_map.mp h
    exact ⟨ha, hb⟩
  · intro ⟨h1, h2⟩
    exact List.mem_flatMap.mpr ⟨p.1, h1, List.mem_map.mpr ⟨p.2, h2, rfl⟩⟩
/-- what is kept of bounds that were handed, in order -/
def keptB (m : List (Pr × Option Bd)) (ps : List Pr) : List (Pr × Bd) := ps.filterMap fun p => ((look m p).getD none).map fun b => (p, b)
theorem look_mem {β : Type} {m : List (Pr × β)} {e : Pr × β} (h : e ∈ m) : look m e.1 ≠ none := fun z => by
  induction m with
  | nil => cases h
  | cons x m ih =>
    by_cases c : x.1 = e.1
    · rw [look_pos c] at z
      cases z
    · rw [look_neg c] at z
      rcases List.mem_cons.mp h with h | h
      · exact c (by rw [h])
      · exact ih h z
theorem look_none {β : Type} {m : List (Pr × β)} {q : Pr} (h : ∀ e ∈ m, e.1 ≠ q) : look m q = none := by
  induction m with
  | nil => rfl
  | cons x m ih =>
    rw [look_neg (h x List.mem_cons_self)]
    exact ih fun e he => h e (List.mem_cons_of_mem _ he)
theorem DT.put {β : Type} {R : Hp → V → β → Prop} {H : Hp} {d a : Addr} {m : List (Pr × β)} {q : Pr} {v : V} {b : β} (h : DT R H d m) (ha : IsPr H a q) (hn : look m q = none) (hl : m.length < sizeLine) (rv : R H v b)
    (st : ∀ o kvs v b, H d = some (.dT kvs) → R H v b → R (upd H d o) v b) : ∃ o, DPut H d (.ref a) v (upd H d o) ∧ DT R (upd H d o) d (m ++ [(q, b)]) := by
  obtain ⟨kvs, e, r⟩ := h
  have hz : kvs.length < sizeLine := by rw [← Paired.length r]; exact hl
  have hk : valV kvs (key2 q) = none := by
    rcases pl_look (R := fun v b => R H v b) q r with ⟨_, h2⟩ | ⟨b', v', h1, _⟩
    · exact h2
    · rw [hn] at h1
      cases h1
  refine ⟨.dT (putK kvs (key2 q) v), DPut.t e ha hz, putK kvs (key2 q) v, upd_same, ?_⟩
  rw [putK_new _ hk]
  exact Rw.Paired.snoc (Rw.Paired.imp r fun x y _ z => ⟨z.1, st _ _ _ _ e z.2⟩) ⟨rfl, st _ _ _ _ e rv⟩
theorem RW.put {K : PySem.W.Frag} {H : Hp} {d : Addr} {o : HO} {kvs : List (List Key × V)} {v : V} {b : Bd} (e : H d = some (.dT kvs)) (h : Rw.RW K H v b) : Rw.RW K (upd H d o) v b := by
  obtain ⟨a, e1, h⟩ := h
  refine ⟨a, e1, ?_⟩
  rcases h with (h | ⟨u, h⟩) | h
  · exact .inl (.inl (by rw [upd_ne (ne_of h e fun z => nomatch z)]; exact h))
  · exact .inl (.inr ⟨u, by rw [upd_ne (ne_of h e fun z => nomatch z)]; exact h⟩)
  · exact .inr h
theorem keptB_snoc {m : List (Pr × Option Bd)} {ps : List Pr} {p : Pr} : keptB m (ps ++ [p]) = keptB m ps ++ (match (look m p).getD none with | some b => [(p, b)] | none => []) := by
  unfold keptB
  rw [List.filterMap_append]
  congr 1
  rw [List.filterMap_cons, List.filterMap_nil]
  cases (look m p).getD none <;> rfl
theorem keptB_key {m : List (Pr × Option Bd)} {ps : List Pr} {e : Pr × Bd} (h : e ∈ keptB m ps) : e.1 ∈ ps := by
  unfold keptB at h
  obtain ⟨p, hp, h⟩ := List.mem_filterMap.mp h
  cases hb : (look m p).getD none with
  | none => rw [hb] at h; cases h
  | some b =>
    rw [hb] at h
    cases h
    exact hp
theorem keptB_len {m : List (Pr × Option Bd)} {ps : List Pr} : (keptB m ps).length ≤ ps.length := List.length_filterMap_le _ _
end Rw
set_option Elab.async false
set_option linter.all false
set_option maxRecDepth 100000
set_option maxHeartbeats 8000000
namespace Rw
open PySem L2
def rTupOf (K : PySem.W.Frag) : List V → Hp → VK → Prop := fun xs H Q => ∃ (p : Addr) (ys : List V), xs = [.ref p] ∧ ((SqL K H p ys ∧ ∀ l, H l = none → Q (.ref l) (upd H l (.tup ys))) ∨ (SqT K H p ys ∧ Q (.ref p) H))
theorem call_tupOf {X : Cx} {K : PySem.W.Frag} (e : X.K = K) : CallR X (.type "tuple") (rTupOf K) := by
  subst e
  exact call_tuple_of
section
variable {P : Program} {w : World} {K : PySem.W.Frag} {mg : Str → Option Value} {base : Heap}
def spOrdered (K : PySem.W.Frag) : Sp := fun vs H Q _ => ∃ (l d : Addr) (ns : List Str) (m : List (Pr × Option Bd)), vs = [.ref l, .ref d] ∧ H l = some (.lst (ns.map V.str)) ∧ DT (RO K) H d m ∧ (∀ e ∈ m, e.1.1 ∈ spots ns ∧ e.1.2 ∈ spots ns ∧ e.1.1 ≠ e.1.2) ∧ ns.length ≤ 20 ∧ m.length ≤ 1000 ∧ (spots ns).Nodup ∧
  ∀ (r : Addr) (H' : Hp), Same H H' → H r = none → DT (RW K) H' r (keptB m (crossP (spots ns) (spots ns))) → Q (.ref r) H'
theorem scOrdered : FnScope ["names", "bounds", "key", "spots", "pairs", "one", "other", "pair"] ["names", "bounds"] (defScope sOrdered) := ⟨rfl, rfl, rfl, by decide +kernel, rfl, by decide +kernel, by decide +kernel⟩
theorem ok_ordered {f fp fu : Addr} {fd fdp fdu : FuncData} (F : Fun K "ordered_bounds" "ordered_bounds" sOrdered f fd) (GP : FnOk P w K mg base CX0 2 fp fdp ["names", "thing"] (spIsSpotPair K)) (GU : FnOk P w K mg base CX0 2 fu fdu ["thing"] (spIsUpper K))
    (bP : Binds K fdp ["names", "thing"] []) (bU : Binds K fdu ["thing"] []) (kP : PySem.W.keepIn K (.ref fp) = true) (kU : PySem.W.keepIn K (.ref fu) = true) (mP : mg "is_spot_pair" = some (.ref fp)) (mU : mg "is_upper" = some (.ref fu))
    (mi : mg "isinstance" = none) (m1 : mg "dict" = none) (m2 : mg "tuple" = none) : FnOk P w K mg base CX0 3 f fd ["names", "bounds"] (spOrdered K) := by
  refine F.ok scOrdered (fun vs H Q E h => ?_) (fun cdv A outer s H vs Q E hr h => ?_)
  · obtain ⟨l, d, ns, m, rfl, _⟩ := h
    rfl
  obtain ⟨l, d, ns, m, rfl, hl, hD, hm, hn, hlm, hnd, q⟩ := h
  have hu := hu_of hr
  refine ⟨_, pss_cons (ps_if (pt_not (pt_val (pe_callB call_isi rfl mi (by decide +kernel) (pa_cons (pv 1) (pa_cons (pe_bltn (v := .ty "dict") rfl m1 (by decide +kernel) rfl) pa_nil))))) pss_never pss_nil)
    (pss_cons (ps_lock (ps_for PassesOwn.never rfl (pi_keys (pv 1)) (pg_name (i := 2) scOrdered.nd rfl (Or.inl rfl))
      (pss_one (ps_if (PW.pt (pw_or (pt_not (pt_val (pe_call GP hr rfl mP kP bP .nil pass0 (pa_cons (pv 0) (pa_cons (pv 2) pa_nil))))) (pw_or1 (pt_not (pt_val (pe_call GU hr rfl mU kU bU .nil pass0 (pa_cons (pe_dget hu (pv 1) (pv 2) (fun _ _ => rfl)) pa_nil))))))) pss_never pss_nil))))
    (pss_cons (ps_set (i := 3) scOrdered.nd rfl (Or.inr rfl) (pe_op op_cat (pe_lst (pa_cons pe_str pa_nil)) (pv 0)))
    (pss_cons (ps_setLc2 (i := 4) (own := [("one", 5), ("other", 6)]) (vs1 := [6]) (g := gName 5) (g1 := gName 6) (wi1 := iList K (tVar 3)) rfl scOrdered.nd rfl rfl (sw_true rfl rfl rfl rfl) (pi_list (pv 3)) (blkOk_by (N := ["names", "bounds", "key", "spots", "pairs", "one", "other", "pair"]) (sc := defScope sOrdered) (by decide +kernel)) (by decide)
        (fun _ _ _ _ _ => pg_name (i := 5) scOrdered.nd rfl (Or.inl rfl)) (fun _ _ _ _ _ => pts_nil) (fun _ _ _ _ _ => pi_list (pv 3)) (fun _ _ _ _ _ => pg_name (i := 6) scOrdered.nd rfl (Or.inl rfl)) (fun _ _ _ _ _ => pts_nil)
        (fun _ _ _ _ _ => pe_tup (pa_cons (pv 5) (pa_cons (pv 6) pa_nil))))
    (pss_one (ps_ret (pe_dcO (.inr rfl) (own := [("pair", 7)]) (g := gName 7) rfl (Nat.lt_of_succ_lt hu) scOrdered.nd (pi_list (pv 4)) (blkOk_by (N := ["names", "bounds", "key", "spots", "pairs", "one", "other", "pair"]) (sc := defScope sOrdered) (by decide +kernel))
        (fun _ _ _ _ _ => pg_name (i := 7) scOrdered.nd rfl (Or.inl rfl)) (fun _ _ _ _ _ => pts_one (pt_cmpR op_notN (pe_dget1 hu (pv 1) (pv 7) ⟨rfl, rfl, rfl, rfl⟩) pe_non (nomark _)))
        (fun _ _ _ _ _ => pv 7) (fun _ _ _ _ _ => pe_callTy (call_tupOf (K := K) rfl) rfl m2 PyProof.Rows.boot_tuple (pa_cons (pe_dget hu (pv 1) (pv 7) (fun _ _ => rfl)) pa_nil)))))))), ?_⟩
  obtain ⟨kvs, hkd, hpr⟩ := hD
  have hlk : m.length = kvs.length := Paired.length hpr
  have k1 : PySem.W.kitOne K (.type "dict") (.type "dict") = some true := kit_ty (by decide +kernel)
  refine ⟨_, rfl, .ref d, .ty "dict", _, _, true, rfl, ClsV.ty "dict", .base (.dT hkd), k1, true, rfl, ?_⟩
  refine (if_neg (by decide)).mpr ?_
  refine ⟨d, .dT kvs, hkd, True.intro, fun od => ?_⟩
  refine ⟨_, rfl, d, od, rfl, .inr ⟨kvs, upd_same, for_it walk_keysT (fun i σ' H' => ∃ key : Option V, σ' = [some (.ref l), some (.ref d), key, none, none, none, none, none] ∧ Lk H H' d od (.dT kvs)) ⟨none, rfl, Lk.first⟩ ?_ ?_ ?_⟩⟩
  · rintro i σ' H' hi ⟨key, rfl, lk⟩
    exact lk.at'
  · rintro i x σ' H1 H2 hi ⟨key, rfl, lk⟩ ⟨rfl, k, v, qa, hkv, rfl, hqa⟩
    obtain ⟨e, he, hek, hev⟩ := paired_at hpr hkv
    have hem : e ∈ m := List.mem_of_getElem? he
    obtain ⟨h1, h2, h3⟩ := hm e hem
    have hek : k = key2 e.1 := hek
    subst hek
    have hqa : H2 qa = some (.tup [.str e.1.1, .str e.1.2]) := hqa
    refine ⟨_, rfl, _, rfl, l, qa, ns, e.1, rfl, SqL.of (lk.keep _ _ hl (ne_of hl hkd fun z => nomatch z)), hqa, h1, h2, h3, true, rfl, ?_⟩
    refine (if_neg (by decide)).mpr ?_
    rcases pl_look (R := fun v b => RO K H v b) e.1 hpr with ⟨g1, _⟩ | ⟨b, v', g1, g2, g3⟩
    · exact absurd g1 (look_mem hem)
    have gd : DGet H2 d (.ref qa) (some v') := .inr ⟨kvs, key2 e.1, qa, .inr ⟨od, lk.at'⟩, rfl, hqa, g2.symm⟩
    refine ⟨_, rfl, _, rfl, d, v', rfl, gd, v', rfl, ?_, fun H3 s3 => ⟨true, rfl, ?_⟩⟩
    · rcases lk.RO hkd g3 with ⟨_, z⟩ | ⟨bd, a, _, z, hS⟩
      · exact .inl z
      · exact .inr ⟨a, bd.1, bd.2, z, hS⟩
    · refine (if_neg (by decide)).mpr ?_
      exact ⟨_, rfl, lk.same s3⟩
  rintro σ' H1 ⟨key, rfl, lk⟩
  refine ⟨lk.at', ?_⟩
  have s2 : Same H (upd H1 d (.dT kvs)) := lk.back hkd
  generalize upd H1 d (.dT kvs) = H2 at s2
  -- spots
  refine ⟨(by show 1 ≤ sizeLine; decide), fun p1 hp1 => ⟨_, rfl, p1, l, _, _, rfl, rfl, upd_same, (by rw [upd_ne (ne_of_none (s2 _ _ hl) hp1)]; exact s2 _ _ hl), ?_, fun sp hsp => ?_⟩⟩
  · rw [List.length_map]
    exact Nat.le_of_lt (small1000 (show 1 + ns.length ≤ 1000 by omega))
  have s3 : Same H (upd (upd H2 p1 (.lst [.str ""])) sp (.lst ([.str ""] ++ ns.map V.str))) := (s2.trans (same_new hp1 _)).trans (same_new hsp _)
  have hsp3 : (upd (upd H2 p1 (.lst [.str ""])) sp (.lst ([.str ""] ++ ns.map V.str))) sp = some (.lst ((spots ns).map V.str)) := upd_same
  generalize upd (upd H2 p1 (.lst [.str ""])) sp (.lst ([.str ""] ++ ns.map V.str)) = H3 at s3 hsp3
  have hsl : ((spots ns).map V.str).length = ns.length + 1 := by rw [List.length_map, List.length_cons]
  have isPr_upd : ∀ {H : Hp} {D : Addr} {xs ys : List V} {a : Addr} {p : Pr}, H D = some (.lst xs) → IsPr H a p → IsPr (upd H D (.lst ys)) a p := fun {H D xs ys a p} e h => by
    unfold IsPr at h ⊢
    rw [upd_ne (ne_of h e fun z => nomatch z)]
    exact h
  refine ⟨_, rfl, sp, rfl, ⟨_, SqL.of hsp3⟩, fun D hD => ?_⟩
  refine walk_turns (walk_list (K := K) (a := sp) (xs := (spots ns).map V.str)) (fun i H' => Same H3 H' ∧ ∃ as : List Addr, H' D = some (.lst (as.map V.ref)) ∧ Paired (fun p a => IsPr H' a p) (crossP ((spots ns).take i) (spots ns)) as)
    ⟨same_new hD _, [], upd_same, .nil⟩ (fun i H' _ h => h.1.seq (SqL.of hsp3)) ?_ ?_
  · rintro i x H4 H5 hi ⟨s4, as, hD4, hP4⟩ ⟨rfl, hx⟩
    obtain ⟨c, hc, rfl⟩ := at_map hx
    refine ⟨rfl, _, rfl, sp, rfl, ⟨_, s4.seq (SqL.of hsp3)⟩, ?_⟩
    refine walk_turns (walk_list (K := K) (a := sp) (xs := (spots ns).map V.str)) (fun j H' => Same H3 H' ∧ ∃ as : List Addr, H' D = some (.lst (as.map V.ref)) ∧ Paired (fun p a => IsPr H' a p) (crossP ((spots ns).take i) (spots ns) ++ ((spots ns).take j).map fun b => (c, b)) as)
      ⟨s4, as, hD4, by rw [List.take_zero, List.map_nil, List.append_nil]; exact hP4⟩ (fun i H' _ h => h.1.seq (SqL.of hsp3)) ?_ ?_
    · rintro j y H6 H7 hj ⟨s6, bs, hD6, hP6⟩ ⟨rfl, hy⟩
      obtain ⟨b, hb, rfl⟩ := at_map hy
      have hbl : bs.length ≤ 1000 := by
        have z := Paired.length hP6
        rw [List.length_append, crossP_len, List.length_map, List.length_take, List.length_take, List.length_cons] at z
        have z1 : min i (ns.length + 1) * (ns.length + 1) ≤ 21 * 21 := Nat.mul_le_mul (by omega) (by omega)
        omega
      refine ⟨rfl, _, rfl, _, rfl, (by show 2 ≤ sizeLine; decide), fun r hr' => ?_⟩
      have hDr : (upd H7 r (.tup [.str c, .str b])) D = some (.lst (bs.map V.ref)) := by rw [upd_ne (ne_of_none hD6 hr')]; exact hD6
      refine ⟨bs.map V.ref, hDr, by rw [List.length_map]; exact small1000 hbl, fun b' o e => ?_, bs ++ [r], by rw [List.map_append]; exact upd_same, ?_⟩
      · have e2 := s6 _ _ e
        rw [upd_ne (ne_of_none e hD), upd_ne (ne_of_none e2 hr')]
        exact e2
      · rw [take_snoc hb, List.map_append, ← List.append_assoc]
        refine Rw.Paired.snoc (Rw.Paired.imp hP6 fun p a _ z => isPr_upd hDr (z.same (same_new hr' _))) ?_
        exact isPr_upd hDr (show IsPr _ r (c, b) from upd_same)
    · rintro H6 ⟨s6, bs, hD6, hP6⟩
      refine ⟨s6, bs, hD6, ?_⟩
      rw [hsl, List.take_of_length_le (Nat.le_of_eq (List.length_cons ..))] at hP6
      have e : crossP ((spots ns).take (i + 1)) (spots ns) = crossP ((spots ns).take i) (spots ns) ++ (spots ns).map fun b => (c, b) := by
        rw [take_snoc hc]
        unfold crossP
        rw [List.flatMap_append, List.flatMap_cons, List.flatMap_nil, List.append_nil]
      rw [e]
      exact hP6
  rintro H4 ⟨s4, as, hD4, hP4⟩
  rw [hsl, List.take_of_length_le (Nat.le_of_eq (List.length_cons ..))] at hP4
  have sH4 : Same H H4 := s3.trans s4
  have hps : (crossP (spots ns) (spots ns)).length ≤ 1000 := by
    rw [crossP_len, List.length_cons]
    have z1 : (ns.length + 1) * (ns.length + 1) ≤ 21 * 21 := Nat.mul_le_mul (by omega) (by omega)
    omega
  have hpnd := crossP_nd hnd hnd
  have hal : as.length = (crossP (spots ns) (spots ns)).length := (Paired.length hP4).symm
  refine ⟨_, rfl, D, rfl, ⟨_, SqL.of hD4⟩, fun r hr4 => ?_⟩
  refine turns_it (walk_list (K := K) (a := D) (xs := as.map V.ref)) (fun i H' => Same H4 H' ∧ DT (RW K) H' r (keptB m ((crossP (spots ns) (spots ns)).take i))) ⟨same_new hr4 _, [], upd_same, .nil⟩ (fun i H' _ h => h.1.seq (SqL.of hD4)) ?_ ?_
  · rintro i x H5 H6 hi ⟨s5, hD5⟩ ⟨rfl, hx⟩
    obtain ⟨a, ha, rfl⟩ := at_map hx
    obtain ⟨p, hp, hap⟩ := paired_at hP4 ha
    have ha5 : IsPr H6 a p := hap.same s5
    have dkv : H6 d = some (.dT kvs) := s5 _ _ (sH4 _ _ hkd)
    have g5 : DGet H6 d (.ref a) (valV kvs (key2 p)) := DGet.t dkv ha5
    have tk := take_snoc hp
    refine ⟨rfl, _, rfl, d, rfl, .inr ⟨kvs, .inl dkv⟩, _, rfl, valV kvs (key2 p), g5, rfl, _, rfl, ?_⟩
    rcases pl_look (R := fun v b => RO K H v b) p hpr with ⟨g1, g2⟩ | ⟨b, v, g1, g2, g3⟩
    · rw [g2]
      refine (if_neg (by decide)).mpr ⟨s5, ?_⟩
      rw [tk, keptB_snoc, g1]
      show DT (RW K) H6 r (keptB m _ ++ [])
      rw [List.append_nil]
      exact hD5
    · rcases RO.same g3 (sH4.trans s5) with ⟨rfl, rfl⟩ | ⟨bd, t, rfl, rfl, hS⟩
      · rw [g2]
        refine (if_neg (by decide)).mpr ⟨s5, ?_⟩
        rw [tk, keptB_snoc, g1]
        show DT (RW K) H6 r (keptB m _ ++ [])
        rw [List.append_nil]
        exact hD5
      · rw [g2] at g5
        rw [g2]
        refine (if_pos (by show (!decide (V.ref t = V.non)) = true; rw [decide_eq_false (fun z => nomatch z)]; rfl)).mpr ?_
        have fresh : look (keptB m ((crossP (spots ns) (spots ns)).take i)) p = none := look_none fun e he z => not_before hpnd hp (z ▸ keptB_key he)
        have hkl : (keptB m ((crossP (spots ns) (spots ns)).take i)).length < sizeLine := by
          have z1 := keptB_len (m := m) (ps := (crossP (spots ns) (spots ns)).take i)
          rw [List.length_take] at z1
          exact small1000 (by omega)
        have fin : ∀ (t' : Addr) (H7 : Hp), Same H6 H7 → SqT K H7 t' [wordV bd.2, .int bd.1] → DT (RW K) H7 r (keptB m ((crossP (spots ns) (spots ns)).take i)) → ∃ H8, DPut H7 r (.ref a) (.ref t') H8 ∧ Same H4 H8 ∧ DT (RW K) H8 r (keptB m ((crossP (spots ns) (spots ns)).take (i + 1))) := fun t' H7 s7 hT hD7 => by
          obtain ⟨o, dp, dt⟩ := hD7.put (ha5.same s7) fresh hkl (b := bd) ⟨t', rfl, hT⟩ fun o kvs v b e h => RW.put e h
          refine ⟨_, dp, fun b o e => ?_, ?_⟩
          · rw [upd_ne (ne_of_none e hr4)]
            exact s7 _ _ (s5 _ _ e)
          · rw [tk, keptB_snoc, g1]
            exact dt
        refine ⟨_, rfl, _, rfl, _, rfl, d, _, rfl, g5, t, [wordV bd.2, .int bd.1], rfl, ?_⟩
        rcases hS with hS | hS
        · refine .inl ⟨hS, fun t' ht' => ?_⟩
          exact fin t' _ (same_new ht' _) (SqT.of upd_same) (hD5.mono (fun o e => by rw [upd_ne (ne_of_none e ht')]; exact e) fun v b h => RW.same h (same_new ht' _))
        · exact .inr ⟨hS, fin t _ (Same.refl _) hS hD5⟩
  · rintro H5 ⟨s5, hD5⟩
    rw [List.length_map, hal, List.take_length] at hD5
    exact q r H5 (sH4.trans s5) (sH4.free hr4) hD5
end
end Rw
set_option Elab.async false
set_option linter.all false
set_option maxRecDepth 100000
set_option maxHeartbeats 8000000
namespace Rw
open PySem L2
abbrev sTInit : Stmt := inClass (top 22) 0
abbrev sTNames : Stmt := inClass (top 22) 1
abbrev sTBounds : Stmt := inClass (top 22) 3
abbrev sTLen : Stmt := inClass (top 22) 4
abbrev sTEq : Stmt := inClass (top 22) 5
/-! ### a table -/
theorem nodup_le {α : Type} [DecidableEq α] : ∀ {xs ys : List α}, xs.Nodup → (∀ x ∈ xs, x ∈ ys) → xs.length ≤ ys.length
  | [], _, _, _ => Nat.zero_le _
  | x :: xs, ys, h, s => by
    obtain ⟨h1, h2⟩ := List.nodup_cons.mp h
    have hx := s x List.mem_cons_self
    have y := nodup_le (ys := ys.erase x) h2 fun z hz => (List.mem_erase_of_ne (fun e : z = x => h1 (by rw [← e]; exact hz))).mpr (s z (List.mem_cons_of_mem _ hz))
    rw [List.length_erase_of_mem hx] at y
    have p := List.length_pos_of_mem hx
    rw [List.length_cons]
    omega
theorem look_some {β : Type} {m : List (Pr × β)} {q : Pr} {b : β} (h : look m q = some b) : ∃ e ∈ m, e.1 = q ∧ e.2 = b := by
  induction m with
  | nil => cases h
  | cons x m ih =>
    by_cases c : x.1 = q
    · rw [look_pos c] at h
      exact ⟨x, List.mem_cons_self, c, Option.some.inj h⟩
    · rw [look_neg c] at h
      obtain ⟨e, he, h1⟩ := ih h
      exact ⟨e, List.mem_cons_of_mem _ he, h1⟩
theorem look_of {β : Type} {m : List (Pr × β)} {e : Pr × β} (hn : (m.map (·.1)).Nodup) (h : e ∈ m) : look m e.1 = some e.2 := by
  induction m with
  | nil => cases h
  | cons x m ih =>
    obtain ⟨h1, h2⟩ := List.nodup_cons.mp hn
    rcases List.mem_cons.mp h with h | h
    · subst h
      exact look_pos rfl
    · rw [look_neg fun z => h1 (by show x.1 ∈ _; rw [z]; exact List.mem_map.mpr ⟨e, h, rfl⟩)]
      exact ih h2 h
theorem keptB_sub {m : List (Pr × Option Bd)} : ∀ {ps : List Pr}, ((keptB m ps).map (·.1)).Sublist ps
  | [] => List.Sublist.slnil
  | p :: ps => by
    have ih := keptB_sub (m := m) (ps := ps)
    unfold keptB at ih ⊢
    rw [List.filterMap_cons]
    cases (look m p).getD none with
    | none => exact ih.cons p
    | some b => exact ih.cons₂ p
theorem nb_ : ¬ (("_names" : Str) = "_bounds") := by decide +kernel
def tf (l d : Addr) : List (Str × V) := putF "_bounds" (.ref d) (putF "_names" (.ref l) [])
theorem tf_names {l d : Addr} : (tf l d).lookup ("_names" : Str) = some (.ref l) := by
  unfold tf
  rw [lookup_putF, if_neg nb_, lookup_putF, if_pos rfl]
theorem tf_bounds {l d : Addr} : (tf l d).lookup ("_bounds" : Str) = some (.ref d) := by
  unfold tf
  rw [lookup_putF, if_pos rfl]
theorem tf_no {l d : Addr} {f : Str} (h1 : ¬ f = "_bounds") (h2 : ¬ f = "_names") : (tf l d).lookup f = none := by
  unfold tf
  rw [lookup_putF, if_neg h1, lookup_putF, if_neg h2]
  all_goals rfl
/-- the names and the bounds of a table -/
structure TabOk (ns : List Str) (m : List (Pr × Bd)) : Prop where
  nd : (spots ns).Nodup
  good : ∀ x ∈ ns, nameB x = true ∧ x.length ≤ 1000
  sok : ∀ x ∈ ns, PyData.strOk x = true
  few : ns.length ≤ 20
  keys : ∀ e ∈ m, e.1.1 ∈ spots ns ∧ e.1.2 ∈ spots ns ∧ e.1.1 ≠ e.1.2
  kn : (m.map (·.1)).Nodup
theorem TabOk.fewB {ns : List Str} {m : List (Pr × Bd)} (h : TabOk ns m) : m.length ≤ 1000 := by
  have z : ∀ x ∈ m.map (·.1), x ∈ crossP (spots ns) (spots ns) := fun x hx => by
    obtain ⟨e, he, rfl⟩ := List.mem_map.mp hx
    exact mem_crossP.mpr ⟨(h.keys e he).1, (h.keys e he).2.1⟩
  have y := nodup_le h.kn z
  rw [List.length_map, crossP_len, List.length_cons] at y
  have few := h.few
  have z1 : (ns.length + 1) * (ns.length + 1) ≤ 21 * 21 := Nat.mul_le_mul (by omega) (by omega)
  omega
theorem keptB_ok {ns : List Str} {m : List (Pr × Option Bd)} (hnd : (spots ns).Nodup) (hg : ∀ x ∈ ns, nameB x = true ∧ x.length ≤ 1000) (hs : ∀ x ∈ ns, PyData.strOk x = true) (hf : ns.length ≤ 20) (hk : ∀ e ∈ m, e.1.1 ∈ spots ns ∧ e.1.2 ∈ spots ns ∧ e.1.1 ≠ e.1.2) : TabOk ns (keptB m (crossP (spots ns) (spots ns))) := by
  refine ⟨hnd, hg, hs, hf, fun e he => ?_, ?_⟩
  · unfold keptB at he
    obtain ⟨p, hp, h⟩ := List.mem_filterMap.mp he
    cases hb : look m p with
    | none => rw [hb] at h; cases h
    | some b =>
      obtain ⟨e', he', h1⟩ := look_some hb
      cases b with
      | none => rw [hb] at h; cases h
      | some bd =>
        rw [hb] at h
        cases h
        have y := hk e' he'
        rw [h1.1] at y
        exact y
  · have sub : ((keptB m (crossP (spots ns) (spots ns))).map (·.1)).Sublist (crossP (spots ns) (spots ns)) := keptB_sub
    exact (crossP_nd hnd hnd).sublist sub
def Tab (K : PySem.W.Frag) (C : Addr) (H : Hp) (p : Addr) (ns : List Str) (m : List (Pr × Bd)) : Prop := TabOk ns m ∧ ∃ dx l d, H p = some (.ins C dx (tf l d)) ∧ H l = some (.lst (ns.map V.str)) ∧ DT (RW K) H d m
theorem Tab.same {K : PySem.W.Frag} {C : Addr} {H H' : Hp} {p : Addr} {ns : List Str} {m : List (Pr × Bd)} (h : Tab K C H p ns m) (s : Same H H') : Tab K C H' p ns m := by
  obtain ⟨ok, dx, l, d, h1, h2, h3⟩ := h
  exact ⟨ok, dx, l, d, s _ _ h1, s _ _ h2, h3.mono (fun o e => s _ _ e) fun v b r => r.same s⟩
structure TxtT (K : PySem.W.Frag) (mg : Str → Option Value) (C : Addr) : Prop where
  cl : Cls K C
  nN : NoAttr K C "_names"
  nB : NoAttr K C "_bounds"
section
variable {P : Program} {w : World} {K : PySem.W.Frag} {mg : Str → Option Value} {base : Heap}
/-- what a table is made of -/
structure Makes (K : PySem.W.Frag) (H : Hp) (a d : Addr) (ns : List Str) (m : List (Pr × Option Bd)) : Prop where
  names : TxS K H a ns
  nd : (spots ns).Nodup
  good : ∀ x ∈ ns, nameB x = true ∧ x.length ≤ 1000
  sok : ∀ x ∈ ns, PyData.strOk x = true
  few : ns.length ≤ 20
  dict : DT (RO K) H d m
  keys : ∀ e ∈ m, e.1.1 ∈ spots ns ∧ e.1.2 ∈ spots ns ∧ e.1.1 ≠ e.1.2
  fewB : m.length ≤ 1000
theorem Makes.same {H H' : Hp} {a d : Addr} {ns : List Str} {m : List (Pr × Option Bd)} (h : Makes K H a d ns m) (s : Same H H') : Makes K H' a d ns m :=
  ⟨Seq.same h.names s, h.nd, h.good, h.sok, h.few, h.dict.mono (fun o e => s _ _ e) fun v b r => r.same s, h.keys, h.fewB⟩
theorem sqL_ins {H H' : Hp} {p a C dx : Addr} {fs : List (Str × V)} {xs : List V} (b : But p H H') (hp : H p = some (.ins C dx fs)) (h : SqL K H a xs) : SqL K H' a xs := by
  rcases h with (h | ⟨o, h⟩) | h
  · exact .inl (.inl (b _ _ h (ne_of h hp fun z => nomatch z)))
  · exact .inl (.inr ⟨o, b _ _ h (ne_of h hp fun z => nomatch z)⟩)
  · exact .inr h
theorem sqT_ins {H H' : Hp} {p a C dx : Addr} {fs : List (Str × V)} {xs : List V} (b : But p H H') (hp : H p = some (.ins C dx fs)) (h : SqT K H a xs) : SqT K H' a xs := by
  rcases h with (h | ⟨o, h⟩) | h
  · exact .inl (.inl (b _ _ h (ne_of h hp fun z => nomatch z)))
  · exact .inl (.inr ⟨o, b _ _ h (ne_of h hp fun z => nomatch z)⟩)
  · exact .inr h
theorem RO.ins {H H' : Hp} {p C dx : Addr} {fs : List (Str × V)} {v : V} {x : Option Bd} (b : But p H H') (hp : H p = some (.ins C dx fs)) (h : RO K H v x) : RO K H' v x := by
  rcases h with h | ⟨bd, a, e1, e2, h⟩
  · exact .inl h
  · exact .inr ⟨bd, a, e1, e2, h.elim (fun z => .inl (sqL_ins b hp z)) fun z => .inr (sqT_ins b hp z)⟩
theorem RW.ins {H H' : Hp} {p C dx : Addr} {fs : List (Str × V)} {v : V} {x : Bd} (b : But p H H') (hp : H p = some (.ins C dx fs)) (h : RW K H v x) : RW K H' v x := by
  obtain ⟨a, e, h⟩ := h
  exact ⟨a, e, sqT_ins b hp h⟩
theorem DT.ins {β : Type} {R : Hp → V → β → Prop} {H H' : Hp} {p d C dx : Addr} {fs : List (Str × V)} {m : List (Pr × β)} (b : But p H H') (hp : H p = some (.ins C dx fs)) (h : DT R H d m) (f : ∀ v x, R H v x → R H' v x) : DT R H' d m := by
  obtain ⟨kvs, e, r⟩ := h
  exact ⟨kvs, b _ _ e (ne_of e hp fun z => nomatch z), Rw.Paired.imp r fun x y _ z => ⟨z.1, f _ _ z.2⟩⟩
theorem Makes.ins {H H' : Hp} {p a d C dx : Addr} {fs : List (Str × V)} {ns : List Str} {m : List (Pr × Option Bd)} (h : Makes K H a d ns m) (b : But p H H') (hp : H p = some (.ins C dx fs)) : Makes K H' a d ns m :=
  ⟨h.names.elim (fun z => .inl (sqL_ins b hp z)) fun z => .inr (sqT_ins b hp z), h.nd, h.good, h.sok, h.few, DT.ins b hp h.dict fun v x r => RO.ins b hp r, h.keys, h.fewB⟩
def spTInit (K : PySem.W.Frag) (C : Addr) : Sp := fun vs H Q _ => ∃ (H0 : Hp) (p dx a d : Addr) (ns : List Str) (m : List (Pr × Option Bd)), vs = [.ref p, .ref a, .ref d] ∧ Same H0 H ∧ H0 p = none ∧ H p = some (.ins C dx []) ∧ Makes K H a d ns m ∧
  ∀ H', Same H0 H' → Tab K C H' p ns (keptB m (crossP (spots ns) (spots ns))) → Q .non H'
theorem scTInit : FnScope ["self", "names", "bounds", "bad"] ["self", "names", "bounds"] (defScope sTInit) := ⟨rfl, rfl, rfl, by decide +kernel, rfl, by decide +kernel, by decide +kernel⟩
theorem ok_tinit {f fb fo C : Addr} {fd fdb fdo : FuncData} (F : Fun K "__init__" "Table.__init__" sTInit f fd) (T : TxtT K mg C) (GB : FnOk P w K mg base CX0 2 fb fdb ["things"] (spBadNameAt K)) (GO : FnOk P w K mg base CX0 3 fo fdo ["names", "bounds"] (spOrdered K))
    (bB : Binds K fdb ["things"] []) (bO : Binds K fdo ["names", "bounds"] []) (kB : PySem.W.keepIn K (.ref fb) = true) (kO : PySem.W.keepIn K (.ref fo) = true) (mB : mg "bad_name_at" = some (.ref fb)) (mO : mg "ordered_bounds" = some (.ref fo)) (m1 : mg "list" = none) :
    FnOk P w K mg base CX0 4 f fd ["self", "names", "bounds"] (spTInit K C) := by
  refine F.ok scTInit (fun vs H Q E h => ?_) (fun cdv A outer s H vs Q E hr h => ?_)
  · obtain ⟨H0, p, dx, a, d, ns, m, rfl, _⟩ := h
    rfl
  obtain ⟨H0, p, dx, a, d, ns, m, rfl, s0, p0, hp, M, q⟩ := h
  have hu := hu_of hr
  refine ⟨_, pss_cons (ps_set (i := 3) scTInit.nd rfl (Or.inl rfl) (pe_call GB (hr.mono (by decide)) rfl mB kB bB .nil pass0 (pa_cons (pv 1) pa_nil)))
    (pss_cons (ps_if (pt_cmpR op_notN (pv 3) pe_non (nomark _)) pss_never pss_nil)
    (pss_cons (ps_fld (pv 0) (pe_callTy call_list_of rfl m1 PyProof.Rows.boot_list (pa_cons (pv 1) pa_nil)) rfl)
    (pss_one (ps_fld (pv 0) (pe_call GO hr rfl mO kO bO .nil pass0 (pa_cons (pe_fld (pv 0) rfl) (pa_cons (pv 2) pa_nil))) rfl)))), ?_⟩
  refine ⟨_, rfl, a, ns, rfl, M.names, (List.nodup_cons.mp M.nd).2, M.good, Nat.le_trans M.few (by decide), fun H1 s1 => ?_⟩
  refine ⟨_, rfl, rfl, false, rfl, (if_neg Bool.false_ne_true).mpr ?_⟩
  have M1 := M.same s1
  have hp1 := s1 _ _ hp
  refine ⟨_, rfl, a, _, rfl, M1.names, fun l hl => ⟨_, rfl, p, C, dx, [], rfl, (by rw [upd_ne (ne_of_none hp1 hl)]; exact hp1), T.cl, T.nN, (by show 0 < 1000; decide), ?_⟩⟩
  have npl := ne_of_none hp1 hl
  have b2 : But p H1 (upd (upd H1 l (.lst (ns.map V.str))) p (.ins C dx (putF "_names" (.ref l) []))) := (But.refl.new hl).put
  have hl2 : (upd (upd H1 l (.lst (ns.map V.str))) p (.ins C dx (putF "_names" (.ref l) []))) l = some (.lst (ns.map V.str)) := by rw [upd_ne npl.symm, upd_same]
  have hp2 : (upd (upd H1 l (.lst (ns.map V.str))) p (.ins C dx (putF "_names" (.ref l) []))) p = some (.ins C dx (putF "_names" (.ref l) [])) := upd_same
  have M2 := M1.ins b2 hp1
  have s2 : Same H0 (upd (upd H1 l (.lst (ns.map V.str))) p (.ins C dx (putF "_names" (.ref l) []))) := fun b o e => b2 b o (s1 _ _ (s0 _ _ e)) (ne_of_none e p0)
  generalize upd (upd H1 l (.lst (ns.map V.str))) p (.ins C dx (putF "_names" (.ref l) [])) = H2 at hl2 hp2 M2 s2
  refine ⟨_, rfl, p, C, dx, _, _, rfl, hp2, T.cl, T.nN, (by rw [lookup_putF, if_pos rfl]), _, rfl, l, d, ns, m, rfl, hl2, M2.dict, M2.keys, M2.few, M2.fewB, M2.nd, fun r H3 s3 hr3 dt3 => ?_⟩
  have hp3 := s3 _ _ hp2
  refine ⟨_, rfl, p, C, dx, _, rfl, hp3, T.cl, T.nB, (by show 1 < 1000; decide), ?_⟩
  have b4 : But p H3 (upd H3 p (.ins C dx (tf l r))) := But.refl.put
  refine q _ (fun b o e => b4 b o (s3 _ _ (s2 _ _ e)) (ne_of_none e p0)) ⟨keptB_ok M.nd M.good M.sok M.few M.keys, dx, l, r, upd_same, b4 _ _ (s3 _ _ hl2) (ne_of (s3 _ _ hl2) hp3 fun z => nomatch z), DT.ins b4 hp3 dt3 fun v x h => RW.ins b4 hp3 h⟩
end
end Rw
set_option Elab.async false
set_option linter.all false
set_option maxRecDepth 100000
set_option maxHeartbeats 8000000
namespace Rw
open PySem L2
section
variable {P : Program} {w : World} {K : PySem.W.Frag} {mg : Str → Option Value} {base : Heap}
def spTNames (K : PySem.W.Frag) (C : Addr) : Sp := fun vs H Q _ => ∃ (p : Addr) (ns : List Str) (m : List (Pr × Bd)), vs = [.ref p] ∧ Tab K C H p ns m ∧ ∀ r, H r = none → Q (.ref r) (upd H r (.lst (ns.map V.str)))
theorem scTNames : FnScope ["self"] ["self"] (defScope sTNames) := ⟨rfl, rfl, rfl, by decide +kernel, rfl, by decide +kernel, by decide +kernel⟩
theorem ok_tnames {f C : Addr} {fd : FuncData} (F : Fun K "names" "Table.names" sTNames f fd) (T : TxtT K mg C) (m1 : mg "list" = none) : FnOk P w K mg base CX0 1 f fd ["self"] (spTNames K C) := by
  refine F.ok scTNames (fun vs H Q E h => ?_) (fun cdv A outer s H vs Q E hr h => ?_)
  · obtain ⟨p, ns, m, rfl, _⟩ := h
    rfl
  obtain ⟨p, ns, m, rfl, ⟨ok, dx, l, d, hp, hl, hd⟩, q⟩ := h
  refine ⟨_, pss_one (ps_ret (pe_callTy call_list_of rfl m1 PyProof.Rows.boot_list (pa_cons (pe_fld (pv 0) rfl) pa_nil))), ?_⟩
  exact ⟨_, rfl, p, C, dx, _, _, rfl, hp, T.cl, T.nN, tf_names, l, _, rfl, .inl (SqL.of hl), fun r hr' => q r hr'⟩
def spTLen (K : PySem.W.Frag) (C : Addr) : Sp := fun vs H Q _ => ∃ (p : Addr) (ns : List Str) (m : List (Pr × Bd)), vs = [.ref p] ∧ Tab K C H p ns m ∧ Q (.int (ns.length : Nat)) H
theorem scTLen : FnScope ["self"] ["self"] (defScope sTLen) := ⟨rfl, rfl, rfl, by decide +kernel, rfl, by decide +kernel, by decide +kernel⟩
theorem ok_tlen {f C : Addr} {fd : FuncData} (F : Fun K "__len__" "Table.__len__" sTLen f fd) (T : TxtT K mg C) (ml : mg "len" = none) : FnOk P w K mg base CX0 1 f fd ["self"] (spTLen K C) := by
  refine F.ok scTLen (fun vs H Q E h => ?_) (fun cdv A outer s H vs Q E hr h => ?_)
  · obtain ⟨p, ns, m, rfl, _⟩ := h
    rfl
  obtain ⟨p, ns, m, rfl, ⟨ok, dx, l, d, hp, hl, hd⟩, q⟩ := h
  refine ⟨_, pss_one (ps_ret (pe_callB call_len_seq rfl ml PySem.boot_len (pa_cons (pe_fld (pv 0) rfl) pa_nil))), ?_⟩
  refine ⟨_, rfl, p, C, dx, _, _, rfl, hp, T.cl, T.nN, tf_names, l, _, rfl, .inl (SqL.of hl), ?_⟩
  rw [List.length_map]
  exact q
def spTBounds (K : PySem.W.Frag) (C : Addr) : Sp := fun vs H Q _ => ∃ (p : Addr) (ns : List Str) (m : List (Pr × Bd)), vs = [.ref p] ∧ Tab K C H p ns m ∧ ∀ (r : Addr) (H' : Hp), H r = none → Same H H' → DT (RW K) H' r m → Q (.ref r) H'
theorem scTBounds : FnScope ["self", "pair"] ["self"] (defScope sTBounds) := ⟨rfl, rfl, rfl, by decide +kernel, rfl, by decide +kernel, by decide +kernel⟩
theorem ok_tbounds {f C : Addr} {fd : FuncData} (F : Fun K "bounds" "Table.bounds" sTBounds f fd) (T : TxtT K mg C) : FnOk P w K mg base CX0 1 f fd ["self"] (spTBounds K C) := by
  refine F.ok scTBounds (fun vs H Q E h => ?_) (fun cdv A outer s H vs Q E hr h => ?_)
  · obtain ⟨p, ns, m, rfl, _⟩ := h
    rfl
  obtain ⟨p, ns, m, rfl, ⟨ok, dx, l, d, hp, hl, kvs, hd, hpr⟩, q⟩ := h
  have hu := hu_of hr
  refine ⟨_, pss_one (ps_ret (pe_lock (pe_dcO (.inr rfl) (own := [("pair", 1)]) (g := gName 1) (tv := tDGet (tFld K (tVar 0) "_bounds") (tVar 1)) rfl (Nat.lt_of_succ_lt hu) scTBounds.nd (pi_keys (pe_fld (pv 0) rfl)) (blkOk_by (N := ["self", "pair"]) (sc := defScope sTBounds) (by decide +kernel))
        (fun _ _ _ _ _ => pg_name (i := 1) scTBounds.nd rfl (Or.inl rfl)) (fun _ _ _ _ _ => pts_nil) (fun _ _ _ _ _ => pv 1) (fun _ _ _ _ _ => pe_dget hu (pe_fld (pv 0) rfl) (pv 1) (fun _ _ => rfl))))), ?_⟩
  have hml : m.length = kvs.length := Paired.length hpr
  refine ⟨d, .dT kvs, hd, True.intro, fun od => ?_⟩
  have ndp : d ≠ p := ne_of hd hp fun z => nomatch z
  have lk0 : Lk H (upd H d (.frz od (.dT kvs))) d od (.dT kvs) := Lk.first
  refine ⟨_, rfl, p, C, dx, _, _, rfl, lk0.keep _ _ hp ndp.symm, T.cl, T.nB, tf_bounds, d, od, rfl, .inr ⟨kvs, lk0.at', fun r hr1 => ?_⟩⟩
  have hrd : r ≠ d := (ne_of_none lk0.at' hr1).symm
  have hr0 : H r = none := by rw [upd_ne hrd] at hr1; exact hr1
  refine turns_it walk_keysT (fun i H' => Lk H H' d od (.dT kvs) ∧ DT (RW K) H' r (m.take i)) ⟨lk0.new hr1, [], upd_same, .nil⟩ (fun i H' _ h => h.1.at') ?_ ?_
  · rintro i x H1 H2 hi ⟨lk, hD⟩ ⟨rfl, k, v, qa, hkv, rfl, hqa⟩
    obtain ⟨e, he, hek, hev⟩ := paired_at hpr hkv
    have hek : k = key2 e.1 := hek
    subst hek
    have hem : e ∈ m := List.mem_of_getElem? he
    have hqa : IsPr H2 qa e.1 := hqa
    rcases pl_look (R := fun v b => RW K H v b) e.1 hpr with ⟨g1, _⟩ | ⟨b, v', g1, g2, g3⟩
    · exact absurd g1 (look_mem hem)
    rw [look_of ok.kn hem] at g1
    cases g1
    have gd : DGet H2 d (.ref qa) (some v') := .inr ⟨kvs, key2 e.1, qa, .inr ⟨od, lk.at'⟩, rfl, hqa, g2.symm⟩
    have rv : RW K H2 v' e.2 := by
      obtain ⟨a, e1, h⟩ := g3
      exact ⟨a, e1, lk.sqT hd h⟩
    have fresh : look (m.take i) e.1 = none := look_none fun e' he' z => by
      obtain ⟨j, hj, ej⟩ := List.mem_iff_getElem.mp he'
      rw [List.length_take] at hj
      have h1 : (m.map (·.1))[i]? = some e.1 := by rw [List.getElem?_map, he]; rfl
      refine not_before ok.kn h1 ?_
      rw [← z, ← List.map_take]
      exact List.mem_map.mpr ⟨e', he', rfl⟩
    have hkl : (m.take i).length < sizeLine := by
      have z1 := ok.fewB
      rw [List.length_take]
      exact small1000 (by omega)
    obtain ⟨o, dp, dt⟩ := hD.put hqa fresh hkl rv fun o kvs v b e h => RW.put e h
    refine ⟨rfl, _, rfl, _, rfl, p, C, dx, _, _, rfl, lk.keep _ _ hp ndp.symm, T.cl, T.nB, tf_bounds, _, rfl, d, v', rfl, gd, _, dp, ⟨fun b o e n => ?_, ?_⟩, ?_⟩
    · rw [upd_ne (ne_of_none e hr0)]
      exact lk.keep b o e n
    · rw [upd_ne hrd.symm]
      exact lk.at'
    · rw [take_snoc he]
      exact dt
  · rintro H1 ⟨lk, hD⟩
    refine ⟨lk.at', q r _ hr0 (lk.back hd) ?_⟩
    rw [← hml, List.take_length] at hD
    refine hD.mono (fun o e => by rw [upd_ne hrd]; exact e) fun v b h => ?_
    obtain ⟨a, e1, h⟩ := h
    refine ⟨a, e1, ?_⟩
    rcases h with (h | ⟨u, h⟩) | h
    · exact .inl (.inl (by rw [upd_ne (ne_of h lk.at' fun z => nomatch z)]; exact h))
    · refine .inl (.inr ⟨u, ?_⟩)
      rw [upd_ne (ne_of h lk.at' fun z => nomatch z)]
      exact h
    · exact .inr h
end
end Rw
set_option Elab.async false
set_option linter.all false
set_option maxRecDepth 100000
set_option maxHeartbeats 8000000
namespace Rw
open PySem L2
/-! ### tables compared -/
theorem dp_strs {K : PySem.W.Frag} {H : Hp} : ∀ ns : List Str, DpAll K H (ns.map V.str) (ns.map PyData.str)
  | [] => .nil
  | n :: ns => .cons (.str n) (dp_strs ns)
theorem eqv_strs : ∀ ns : List Str, PyData.eqvAll (ns.map PyData.str) (ns.map PyData.str) = true
  | [] => rfl
  | n :: ns => by
    rw [List.map_cons, PyData.eqvAll, eqv_strs ns, PyData.eqv]
    simp
theorem lay_strs : ∀ ns : List Str, (∀ x ∈ ns, PyData.strOk x = true) → PyData.canLayAll0 (ns.map PyData.str) = true
  | [], _ => by simp [PyData.canLayAll0]
  | n :: ns, h => by
    rw [List.map_cons, PyData.canLayAll0, lay_strs ns fun x hx => h x (List.mem_cons_of_mem _ hx), PyData.canLay0, h n List.mem_cons_self]
    rfl
theorem depth_strs : ∀ ns : List Str, PyData.depthAll (ns.map PyData.str) = 0
  | [] => by simp [PyData.depthAll]
  | n :: ns => by
    rw [List.map_cons, PyData.depthAll, depth_strs ns, PyData.depth]
    rfl
theorem shaped_strs (ns : List Str) (h : ∀ x ∈ ns, PyData.strOk x = true) : SeqAt.shaped (.list (ns.map PyData.str)) = true := by
  unfold SeqAt.shaped
  rw [PyData.canLay0, lay_strs ns h, PyData.depth, depth_strs]
  rfl
def wordS (s : Int) : Str := if s = 1 then "below" else "upto"
def bdD (b : Bd) : PyData := .tuple [.str (wordS b.2), .int b.1]
theorem shaped_bd (b : Bd) : SeqAt.shaped (bdD b) = true := by
  unfold SeqAt.shaped bdD
  have e : PyData.strOk (wordS b.2) = true := by
    unfold wordS
    split <;> decide +kernel
  simp [PyData.canLay0, PyData.canLayAll0, PyData.depth, PyData.depthAll, e]
theorem eqv_bd (b : Bd) : PyData.eqv (bdD b) (bdD b) = true := by
  unfold bdD
  simp [PyData.eqv, PyData.eqvAll]
theorem dp_bd {K : PySem.W.Frag} {H : Hp} {v : V} {b : Bd} (h : RW K H v b) : Dp K H v (bdD b) := by
  obtain ⟨a, rfl, h⟩ := h
  exact .tup h (.cons (.str _) (.cons (.int _) .nil))
theorem agree_same {K : PySem.W.Frag} {H : Hp} {m' : List (Pr × Bd)} {ls : List (List Key × V)} (hl : Paired (fun e kv => kv.1 = key2 e.1 ∧ RW K H kv.2 e.2) m' ls) :
    ∀ {r : List (Pr × Bd)} {ks : List (List Key × V)}, (∀ e ∈ r, look m' e.1 = some e.2) → Paired (fun e kv => kv.1 = key2 e.1 ∧ RW K H kv.2 e.2) r ks → AgV K H ls ks true
  | [], _, _, .nil => .done
  | e :: r, kv :: ks, hs, .cons ⟨h1, h2⟩ t => by
    rcases pl_look (R := fun v b => RW K H v b) e.1 hl with ⟨g1, _⟩ | ⟨b, v, g1, g2, g3⟩
    · rw [hs e List.mem_cons_self] at g1
      cases g1
    · rw [hs e List.mem_cons_self] at g1
      cases g1
      have z := AgV.meet (r := ks) (b := true) (x := kv) (by rw [h1]; exact g2) (dp_bd h2) (dp_bd g3) (shaped_bd _) (shaped_bd _) (agree_same hl (fun x hx => hs x (List.mem_cons_of_mem _ hx)) t)
      rw [eqv_bd] at z
      exact z
/-- the same names, and as many bounds, the same -/
def RTab (K : PySem.W.Frag) (C : Addr) : Addr → Addr → Hp → Prop := fun a b H => ∃ ns m m', Tab K C H a ns m ∧ Tab K C H b ns m' ∧ m.length = m'.length ∧ ∀ e ∈ m, look m' e.1 = some e.2
/-- what isinstance asks of a class -/
structure IsiT (K : PySem.W.Frag) (C : Addr) : Prop where
  ha : PySem.W.findIn K (.ref C) "__class__" = some (some (.builtin "object.__class__"))
  hn : PySem.W.specialIn K (.builtin "object.__class__") "__get__" = some (some (.builtin "getset_descriptor.__get__"))
  htk : PySem.W.takesIn K (.builtin "object.__class__") = some true
  hm : PySem.W.mroIn K C (.type "object") = some true
  one : PySem.W.kitOne K (.ref C) (.ref C) = some true
theorem units66 {k : Nat} {A : Around} (r : Room k A) : A.units + 66 < cLine := by have := r.un; omega
section
variable {P : Program} {w : World} {K : PySem.W.Frag} {mg : Str → Option Value} {base : Heap}
theorem scTEq : FnScope ["self", "other"] ["self", "other"] (defScope sTEq) := ⟨rfl, rfl, rfl, by decide +kernel, rfl, by decide +kernel, by decide +kernel⟩
theorem ok_teq {f C : Addr} {fd : FuncData} (F : Fun K "__eq__" "Table.__eq__" sTEq f fd) (T : TxtT K mg C) (J : IsiT K C) (mi : mg "isinstance" = none) (mC : mg "Table" = some (.ref C)) : FnOk P w K mg base CX0 1 f fd ["self", "other"] (spEq (RTab K C)) := by
  refine F.ok scTEq (fun vs H Q E h => ?_) (fun cdv A outer s H vs Q E hr h => ?_)
  · obtain ⟨a, b, rfl, _⟩ := h
    rfl
  obtain ⟨a, b, rfl, ⟨ns, m, m', ⟨ok, dx, l, d, hp, hl, kvs, hd, hpr⟩, ⟨ok', dx', l', d', hp', hl', ls, hd', hpr'⟩, hlen, hsame⟩, q⟩ := h
  have h64 := hr.units
  have h66 := units66 hr
  refine ⟨_, pss_one (ps_ret (pe_and (pe_callB call_isi rfl mi (by decide +kernel) (pa_cons (pv 1) (pa_cons (pe_glob (v := .ref C) rfl mC rfl) pa_nil)))
    (pe_and (pe_cmpR (op_eqD h64) (pe_fld (pv 0) rfl) (pe_fld (pv 1) rfl) (nomark _)) (pe_one (pe_cmpR (op_eq_dT h66) (pe_fld (pv 0) rfl) (pe_fld (pv 1) rfl) (nomark _)))))), ?_⟩
  refine ⟨_, rfl, .ref b, .ref C, _, _, true, rfl, ClsV.own C, .base (.ins hp' T.cl J.ha J.hn J.htk J.hm), J.one, true, rfl, ?_⟩
  refine (if_pos rfl).mpr ?_
  refine ⟨_, rfl, a, C, dx, _, _, rfl, hp, T.cl, T.nN, tf_names, _, rfl, b, C, dx', _, _, rfl, hp', T.cl, T.nN, tf_names, _, _, .lst (SqL.of hl) (dp_strs ns), .lst (SqL.of hl') (dp_strs ns), shaped_strs ns ok.sok, shaped_strs ns ok.sok, _, rfl, ?_⟩
  rw [PyData.eqv, eqv_strs]
  refine (if_pos rfl).mpr ?_
  refine ⟨_, rfl, a, C, dx, _, _, rfl, hp, T.cl, T.nB, tf_bounds, _, rfl, b, C, dx', _, _, rfl, hp', T.cl, T.nB, tf_bounds, d, d', kvs, ls, true, rfl, rfl, hd, hd', agree_same hpr' hsame hpr, ?_⟩
  have e : (kvs.length == ls.length && true) = true := by
    rw [← Paired.length hpr, ← Paired.length hpr', hlen]
    simp
  rw [e]
  exact q H fun _ _ h => h
end
end Rw
set_option Elab.async false
set_option linter.all false
set_option maxRecDepth 100000
set_option maxHeartbeats 8000000
namespace Rw
open PySem PySem.Spec PyProof.Rows L2
/-! ### != of tables -/
section
variable {prog : Program} {w : World} {A : Around} {E : Value → Shared → Prop} {s : Shared} {K : PySem.W.Frag} {x C f : Addr} {ox : Obj} {od : Option Obj} {b : Value}
theorem entry_neOwn {Q : Fin → Shared → Prop} (hu : A.units < cLine) (X : K.In s.heap) (I : PySem.W.InstAt s.heap x ox C od) (hs : PySem.W.findIn K (.ref C) "__eq__" = some (some (.ref f))) (hf : PySem.W.isFn K (.ref f) = true)
    (h : wpAny (model prog w) A (call (.ref f) [.ref x, b]) (fun v s' => ∃ r, v = .bool r ∧ Q (.done (.ret (.bool (!r)))) s') E s) : wpAny (model prog w) A (Builtin.«object.__ne__» ⟨[.ref x, b], []⟩) Q E s := by
  unfold Builtin.«object.__ne__»
  repeat (first
    | with_reducible refine wpAny_cRoomFor hu ?_
    | (refine wpAny_bind (m := callSpecialIfBound? (.ref x) (Str.ofString "__eq__") [b]) (PySem.W.ifBound_K X I hs hf (wpAny_mono h (fun v s' hv => by
        obtain ⟨r, rfl, hq⟩ := hv
        repeat (first | exact hq | exact wpAny_pure hq | exact wpAny_truthy_bool hq | (refine wpAny_bind (m := truthy (.bool _)) (wpAny_truthy_bool ?_)) | wp_step)) fun _ _ e => e)))
    | wp_step)
theorem call_neOwn {Q : Value → Shared → Prop} (hu : A.in1.units < cLine) (X : K.In s.heap) (I : PySem.W.InstAt s.heap x ox C od) (hm : PySem.W.mroIn K C (.type "object") = some true) (hs : PySem.W.findIn K (.ref C) "__eq__" = some (some (.ref f))) (hf : PySem.W.isFn K (.ref f) = true)
    (h : wpAny (model prog w) A.in1 (call (.ref f) [.ref x, b]) (fun v s' => ∃ r, v = .bool r ∧ Q (.bool (!r)) s') E s) : wpAny (model prog w) A (call (.builtin "object.__ne__") [.ref x, b]) Q E s :=
  wpAny_call (codeAny_call_builtin F.cmp_object.ne.plain F.cmpEntry_ne (PySem.W.check_slot F.cmpKind_ne F.cmpSplit_ne (I.type.andThen (PySem.W.looks_mroIn X hm)) (F.cmpArgs_ne _ _) (entry_neOwn hu X I hs hf (wpAny_mono h (fun v s' hv => by
    obtain ⟨r, e, hq⟩ := hv
    exact ⟨r, e, hq⟩) fun _ _ e => e))))
theorem ifBound_objNe {args : List Value} {M : Model} {Q : Option Value → Shared → Prop} (X : K.In s.heap) (I : PySem.W.InstAt s.heap x ox C od) (hs : PySem.W.findIn K (.ref C) "__ne__" = some (some (.builtin "object.__ne__")))
    (h : wpAny M A (call (.builtin "object.__ne__") (.ref x :: args)) (fun v => Q (some v)) E s) : wpAny M A (callSpecialIfBound? (.ref x) "__ne__" args) Q E s := by
  simp only [callSpecialIfBound?, bindSpecialIfBound?]
  refine wpAny_holding (wpAny_bind (wpAny_bind (wpAny_bind (I.type.here ((PySem.W.looks_findIn X hs).here ?_)))))
  refine wpAny_bind (wpAny_askSetting (wpAny_ite ?_))
  have last : wpAny M A (call (.builtin "object.__ne__") ([.ref x] ++ args) >>= fun v => pure (some v)) Q E s := wpAny_bind (wpAny_mono h (fun v s' h' => wpAny_pure h') fun _ _ h' => h')
  split
  · exact wpAny_bind (wpAny_of_eq (F.cmp_object.ne.bind _) (wpAny_pure (by exact last)))
  · exact wpAny_tryCatch (wpAny_bind (wpAny_of_eq (F.cmp_object.ne.bind _) (wpAny_pure (by exact last))))
theorem rc_neOwn {y : Addr} {oy : Obj} {ody : Option Obj} {Q : Value → Shared → Prop} (hu : A.in1.units < cLine) (X : K.In s.heap) (I : PySem.W.InstAt s.heap x ox C od) (I' : PySem.W.InstAt s.heap y oy C ody) (hm : PySem.W.mroIn K C (.type "object") = some true) (hs : PySem.W.findIn K (.ref C) "__eq__" = some (some (.ref f)))
    (hf : PySem.W.isFn K (.ref f) = true) (hn : PySem.W.findIn K (.ref C) "__ne__" = some (some (.builtin "object.__ne__"))) (h : wpAny (model prog w) A.in1 (call (.ref f) [.ref x, .ref y]) (fun v s' => ∃ r, v = .bool r ∧ Q (.bool (!r)) s') E s) :
    wpAny (model prog w) A (richCompare .NotEq (.ref x) (.ref y)) Q E s := by
  have one : wpAny (model prog w) A (tryCompare (.ref x) "__ne__" (.ref y)) (fun r s' => ∃ v, r = some v ∧ Q v s') E s := by
    unfold tryCompare
    refine wpAny_bind (ifBound_objNe X I hn (call_neOwn hu X I hm hs hf (wpAny_mono h (fun v s' hv => ?_) fun _ _ e => e)))
    obtain ⟨r, e, hq⟩ := hv
    exact ⟨r, e, wpAny_pure ⟨_, rfl, hq⟩⟩
  unfold richCompare
  simp only [oneThing_ref]
  refine wpAny_holding (wpAny_bind (wpAny_cRoomFor (Nat.lt_of_succ_lt hu) ?_))
  rw [cmpInfo_NotEq]
  dsimp only
  refine wpAny_bind (I.type.here (wpAny_bind (I'.type.here ?_)))
  rw [show (Value.ref C != Value.ref C) = false by simp]
  simp only [Bool.false_eq_true, if_false]
  refine wpAny_bind (wpAny_pure ?_)
  simp only [Bool.false_eq_true, if_false]
  refine wpAny_bind (wpAny_mono one (fun r s' z => ?_) fun _ _ e => e)
  obtain ⟨v, rfl, hq⟩ := z
  exact wpAny_pure hq
end
/-- two tables alike, or None twice: != tells False -/
def rNeT (C : Addr) (R : Addr → Addr → Hp → Prop) : R2 := fun x y H Q => (x = .non ∧ y = .non ∧ Q (.bl false) H) ∨ (DIns C R x y H ∧ ∀ H', Same H H' → Q (.bl false) H')
section
variable {X : Cx}
theorem op_neT {CX : CXT} {C f : Addr} {fd : FuncData} {ps : List Str} {n : Nat} {R : Addr → Addr → Hp → Prop} {E : XK} (F : FnOk X.prog X.w X.K X.mg X.base CX n f fd ps (spEq R)) (hr : Room (n + 1) X.A)
    (hs : PySem.W.findIn X.K (.ref C) "__eq__" = some (some (.ref f))) (hf : PySem.W.isFn X.K (.ref f) = true) (hn : PySem.W.findIn X.K (.ref C) "__ne__" = some (some (.builtin "object.__ne__"))) (hm : PySem.W.mroIn X.K C (.type "object") = some true)
    (hb : Binds X.K fd ps []) (hx : Passes CX X E) : OpR X (compareOp .NotEq) (rNeT C R) := by
  intro pins s σ H x y v u Q I rx ry hq
  rcases hq with ⟨rfl, rfl, q⟩ | ⟨⟨a, b, dx, dy, fs, gs, rfl, rfl, ha, hb', hr'⟩, q⟩
  · exact op_ne pins s σ H .non .non v u Q I rx ry ⟨rfl, q⟩
  · cases rx
    cases ry
    obtain ⟨mA, J, _⟩ := ins_get I.hok ha
    obtain ⟨mB, J', _⟩ := ins_get I.hok hb'
    obtain ⟨od, J, _⟩ := J.look
    obtain ⟨od', J', _⟩ := J'.look
    have sp : spEq R [.ref a, .ref b] H (fun v H' => v = .bl true ∧ Ext H H') E := ⟨a, b, rfl, hr', fun H' e => ⟨rfl, e⟩⟩
    have e0 : Env0 X.prog X.w X.K X.mg X.base X.A.in1 X.stack s H := by
      have e := I.env0
      exact ⟨e.frames, e.mod, e.bs, e.bsz, e.funs, e.frf, e.hok, e.bare⟩
    have hl := F.len _ _ _ _ sp
    show wpAny (model X.prog X.w) X.A (richCompare .NotEq (.ref a) (.ref b)) _ _ _
    refine rc_neOwn (hr.in1).units0 I.kIn J J' hm hs hf hn (wpAny_call (codeAny_mono (F.run X.A.in1 X.stack s H ⟨[.ref a, .ref b], []⟩ [.ref a, .ref b] [.ref a, .ref b] _ E hr.in1 e0 (by
      have z := hb s [.ref a, .ref b] I.kIn (by simpa using hl)
      simpa using z) (.cons rfl (.cons rfl .nil)) sp) fun r s' hq => ?_))
    cases r with
    | error e => exact hx pins σ H s e s' I hq
    | ok fl =>
      cases fl with
      | ret w =>
        obtain ⟨z, H', I', rz, ez, ex⟩ := I.after hq
        subst ez
        cases rz
        exact ⟨true, rfl, .bl false, H', I', rfl, q H' ex⟩
      | next => exact False.elim hq
      | brk => exact False.elim hq
      | cont => exact False.elim hq
end
end Rw
set_option Elab.async false
set_option linter.all false
set_option maxRecDepth 100000
set_option maxHeartbeats 8000000
namespace Rw
open PySem PySem.Spec PyProof.Rows L2
/-! ### len of a table -/
def rLenTab (K : PySem.W.Frag) (C : Addr) : List V → Hp → VK → Prop := fun xs H Q => ∃ (a : Addr) (ns : List Str) (m : List (Pr × Bd)), xs = [.ref a] ∧ Tab K C H a ns m ∧ Q (.int (ns.length : Nat)) H
section
variable {X : Cx}
theorem call_lenTab {CX : CXT} {C f : Addr} {fd : FuncData} {ps : List Str} {n : Nat} {E : XK} (F : FnOk X.prog X.w X.K X.mg X.base CX n f fd ps (spTLen X.K C)) (hr : Room (n + 1) X.A)
    (hs : PySem.W.findIn X.K (.ref C) "__len__" = some (some (.ref f))) (hf : PySem.W.isFn X.K (.ref f) = true) (hb : Binds X.K fd ps []) (hx : Passes CX X E) : CallR X (.builtin "len") (rLenTab X.K C) := by
  intro pins s σ H xs us Q I r hq
  obtain ⟨a, ns, m, rfl, T, q⟩ := hq
  obtain ⟨u, rfl, ru⟩ := vals1 r
  cases ru
  have few := T.1.few
  obtain ⟨ok, dx, l, d, ha, hl⟩ := id T
  obtain ⟨mA, J, _⟩ := ins_get I.hok ha
  obtain ⟨od, J, _⟩ := J.look
  obtain ⟨mm, hF⟩ := I.fr
  have sp : spTLen X.K C [.ref a] H (fun v H' => v = .int (ns.length : Nat) ∧ Q v H') E := ⟨a, ns, m, rfl, T, rfl, q⟩
  have e0 : Env0 X.prog X.w X.K X.mg X.base X.A.in1 X.stack s H := by
    have e := I.env0
    exact ⟨e.frames, e.mod, e.bs, e.bsz, e.funs, e.frf, e.hok, e.bare⟩
  have hl := F.len _ _ _ _ sp
  refine PySem.W.len_K hF I.ok.mod.kin J hs hf (wpAny_call (codeAny_mono (F.run X.A.in1 X.stack s H ⟨[.ref a], []⟩ [.ref a] [.ref a] _ E hr.in1 e0 (by
    have z := hb s [.ref a] I.kIn (by simpa using hl)
    simpa using z) (.cons rfl .nil) sp) fun r s' hq => ?_))
  cases r with
  | error e => exact hx pins σ H s e s' I hq
  | ok fl =>
    cases fl with
    | ret w =>
      obtain ⟨z, H', I', rz, ez, qz⟩ := I.after hq
      subst ez
      obtain ⟨t, rfl⟩ := rz
      refine ⟨⟨by omega, by omega⟩, ?_⟩
      exact ⟨.int (ns.length : Nat), H', I'.tok _, ⟨_, rfl⟩, qz⟩
    | next => exact False.elim hq
    | brk => exact False.elim hq
    | cont => exact False.elim hq
end
end Rw
set_option Elab.async false
set_option linter.all false
set_option maxRecDepth 100000
set_option maxHeartbeats 8000000
namespace Rw
open PySem L2
abbrev sGridOf : Stmt := top 27
abbrev sTableOf : Stmt := top 28
abbrev sShut : Stmt := top 29
abbrev sClosedGrid : Stmt := top 30
/-! ### grids -/
abbrev Mat := List (List Code')
def Grid (H : Hp) (g : Addr) (M : Mat) : Prop := ∃ as : List Addr, H g = some (.lst (as.map V.ref)) ∧ Paired (fun (r : List Code') a => H a = some (.lst (r.map cv))) M as
theorem Grid.same {H H' : Hp} {g : Addr} {M : Mat} (h : Grid H g M) (s : Same H H') : Grid H' g M := by
  obtain ⟨as, h1, h2⟩ := h
  exact ⟨as, s _ _ h1, Rw.Paired.imp h2 fun r a _ z => s _ _ z⟩
/-- the codes of a table's bounds, 1 (from 0 on) where a spot meets itself -/
def codeM (m : List (Pr × Bd)) (a b : Str) : Code' := (look m (a, b)).map codeB
def gridM (ns : List Str) (m : List (Pr × Bd)) : Mat := (spots ns).map fun a => (spots ns).map fun b => if a = b then some 1 else codeM m a b
theorem paired_right {α β : Type} {F G : α → β → Prop} : ∀ {xs : List α} {ys : List β}, Paired F xs ys → (∀ x y, y ∈ ys → F x y → G x y) → Paired G xs ys
  | _, _, .nil, _ => .nil
  | _, _, .cons r t, f => .cons (f _ _ List.mem_cons_self r) (paired_right t fun x y h => f x y (List.mem_cons_of_mem _ h))
theorem set_diag {f : Str → Code'} {a : Str} : ∀ {xs : List Str} {i : Nat}, xs.Nodup → xs[i]? = some a → ((xs.map f).map cv).set i (.int 1) = (xs.map fun b => if a = b then some 1 else f b).map cv
  | x :: xs, 0, hn, h => by
    have e : x = a := Option.some.inj h
    subst e
    have hx := (List.nodup_cons.mp hn).1
    show V.int 1 :: (xs.map f).map cv = cv (if x = x then some 1 else f x) :: (xs.map fun b => if x = b then some 1 else f b).map cv
    rw [if_pos rfl]
    congr 2
    refine List.map_congr_left fun b hb => ?_
    have ne : ¬ x = b := fun e => hx (by rw [e]; exact hb)
    rw [if_neg ne]
  | x :: xs, i + 1, hn, h => by
    obtain ⟨hx, hn'⟩ := List.nodup_cons.mp hn
    have h' : xs[i]? = some a := h
    show cv (f x) :: ((xs.map f).map cv).set i (.int 1) = cv (if a = x then some 1 else f x) :: _
    have ne : ¬ a = x := fun e => hx (by rw [← e]; exact List.mem_of_getElem? h')
    rw [set_diag hn' h', if_neg ne]
theorem paired_set {α β : Type} {F G : α → β → Prop} : ∀ {xs : List α} {ys : List β} {i : Nat} {x : α} {y : β}, Paired F xs ys → ys.Nodup → ys[i]? = some y → (∀ x' y', y' ≠ y → F x' y' → G x' y') → G x y → Paired G (xs.set i x) ys
  | [], [], _, _, _, _, _, e, _, _ => by simp at e
  | _ :: _, b :: _, 0, x, y, .cons r t, hn, e, f, g => by
    have e : b = y := Option.some.inj e
    subst e
    exact .cons g (paired_right t fun a c hc h => f a c (fun z => (List.nodup_cons.mp hn).1 (by rw [← z]; exact hc)) h)
  | _ :: _, b :: bs, i + 1, x, y, .cons r t, hn, e, f, g => by
    have e' : bs[i]? = some y := e
    exact .cons (f _ _ (fun z => (List.nodup_cons.mp hn).1 (by rw [z]; exact List.mem_of_getElem? e')) r) (paired_set t (List.nodup_cons.mp hn).2 e' f g)
theorem ixN_ok {n j : Nat} (hj : j < n) : ixN n (j : Int) = some j := by
  unfold ixN
  rw [if_pos (by omega), if_pos (by omega)]
  rfl
section
variable {P : Program} {w : World} {K : PySem.W.Frag} {mg : Str → Option Value} {base : Heap}
def spGridOf (K : PySem.W.Frag) (C : Addr) : Sp := fun vs H Q _ => ∃ (p : Addr) (ns : List Str) (m : List (Pr × Bd)), vs = [.ref p] ∧ Tab K C H p ns m ∧ ∀ (g : Addr) (H' : Hp), Same H H' → H g = none → Grid H' g (gridM ns m) → Q (.ref g) H'
theorem scGridOf : FnScope ["table", "spots", "bounds", "grid", "at", "one", "other"] ["table"] (defScope sGridOf) := ⟨rfl, rfl, rfl, by decide +kernel, rfl, by decide +kernel, by decide +kernel⟩
theorem ok_grid_of {f fc fn fb C : Addr} {fd fdc fdn fdb : FuncData} (F : Fun K "grid_of" "grid_of" sGridOf f fd) (T : TxtT K mg C) (GC : FnOk P w K mg base CX0 1 fc fdc ["bound"] (spCodeOf K)) (bC : Binds K fdc ["bound"] []) (kC : PySem.W.keepIn K (.ref fc) = true) (mC : mg "code_of" = some (.ref fc))
    (GN : FnOk P w K mg base CX0 1 fn fdn ["self"] (spTNames K C)) (bN : Binds K fdn ["self"] []) (hN : Meth K C "names" fn) (GB : FnOk P w K mg base CX0 1 fb fdb ["self"] (spTBounds K C)) (bB : Binds K fdb ["self"] []) (hB : Meth K C "bounds" fb)
    (ml : mg "len" = none) (mr : mg "range" = none) {tk : Tok} (mU : mg "UPTO_ZERO" = some (.int 1 tk)) : FnOk P w K mg base CX0 2 f fd ["table"] (spGridOf K C) := by
  refine F.ok scGridOf (fun vs H Q E h => ?_) (fun cdv A outer s H vs Q E hr h => ?_)
  · obtain ⟨p, ns, m, rfl, _⟩ := h
    rfl
  obtain ⟨p, ns, m, rfl, hT, q⟩ := h
  have hu := hu_of hr
  refine ⟨_, pss_cons (ps_set (i := 1) scGridOf.nd rfl (Or.inr rfl) (pe_op op_cat (pe_lst (pa_cons pe_str pa_nil)) (pe_meth0 (pv 0) T.cl hN GN hr bN .nil pass0)))
    (pss_cons (ps_set (i := 2) scGridOf.nd rfl (Or.inr rfl) (pe_meth0 (pv 0) T.cl hB GB hr bB .nil pass0))
    (pss_cons (ps_setLc (i := 3) (own := [("one", 5)]) (g := gName 5) (te := tLc (iList K (tVar 1)) (gName 6) tYes (tCall (spCodeOf K) [] E0 (tCons (tDGet1 (tVar 2) (tTup (tCons (tVar 5) (tCons (tVar 6) tNil)))) tNil)) [6]) rfl scGridOf.nd rfl rfl (sw_true rfl rfl rfl rfl) (pi_list (pv 1)) (blkOk_by (N := ["table", "spots", "bounds", "grid", "at", "one", "other"]) (sc := defScope sGridOf) (by decide +kernel))
        (fun _ _ _ _ _ => pg_name (i := 5) scGridOf.nd rfl (Or.inr rfl)) (fun _ _ _ _ _ => pts_nil)
        (fun _ _ _ _ _ => pe_lc (own := [("other", 6)]) (g := gName 6) rfl scGridOf.nd (pi_list (pv 1)) (blkOk_by (N := ["table", "spots", "bounds", "grid", "at", "one", "other"]) (by rfl))
          (fun _ _ _ _ _ => pg_name (i := 6) scGridOf.nd rfl (Or.inl rfl)) (fun _ _ _ _ _ => pts_nil) (fun _ _ _ _ _ => pe_call GC hr rfl mC kC bC .nil pass0 (pa_cons (pe_dget1 hu (pv 2) (pe_tup (pa_cons (pv 5) (pa_cons (pv 6) pa_nil))) ⟨rfl, rfl, rfl, rfl⟩) pa_nil))))
    (pss_cons (ps_for PassesOwn.never rfl (pi_range1 rfl mr (pa_cons (pe_callB call_len_seq rfl ml PySem.boot_len (pa_cons (pv 1) pa_nil)) pa_nil)) (pg_name (i := 4) scGridOf.nd rfl (Or.inl rfl))
      (pss_one (ps_asg (pe_glob (v := .int 1) rfl mU ⟨_, rfl⟩) (pg_sub (pe_ix ix_list (pv 3) (pv 4) (fun _ _ => rfl)) (pv 4) set_list))))
    (pss_one (ps_ret (pv 3)))))), ?_⟩
  obtain ⟨ok, dx, l, d, hp, hl, hd⟩ := id hT
  have hlk : ∀ f : Str, ¬ f = "_bounds" → ¬ f = "_names" → (tf l d).lookup f = none := fun f => tf_no
  refine ⟨(by show 1 ≤ sizeLine; decide), fun p1 hp1 => ⟨_, rfl, p, dx, _, rfl, (same_new hp1 _) _ _ hp, hlk _ (by decide +kernel) (by decide +kernel), p, ns, m, rfl, hT.same (same_new hp1 _), fun r hr1 => ?_⟩⟩
  have few := ok.few
  refine ⟨p1, r, _, _, rfl, rfl, (same_new hr1 _) _ _ upd_same, upd_same, ?_, fun sp hsp => ?_⟩
  · rw [List.length_map]
    exact Nat.le_of_lt (small1000 (show 1 + ns.length ≤ 1000 by omega))
  have s1 : Same H (upd (upd (upd H p1 (.lst [.str ""])) r (.lst (ns.map V.str))) sp (.lst ([.str ""] ++ ns.map V.str))) := ((same_new hp1 _).trans (same_new hr1 _)).trans (same_new hsp _)
  have hsp1 : (upd (upd (upd H p1 (.lst [.str ""])) r (.lst (ns.map V.str))) sp (.lst ([.str ""] ++ ns.map V.str))) sp = some (.lst ((spots ns).map V.str)) := upd_same
  generalize upd (upd (upd H p1 (.lst [.str ""])) r (.lst (ns.map V.str))) sp (.lst ([.str ""] ++ ns.map V.str)) = H1 at s1 hsp1
  refine ⟨_, rfl, p, dx, _, rfl, s1 _ _ hp, hlk _ (by decide +kernel) (by decide +kernel), p, ns, m, rfl, hT.same s1, fun bd H2 hbd s2 dt2 => ?_⟩
  have hsp2 := s2 _ _ hsp1
  obtain ⟨kvs, hkd, hpr⟩ := id dt2
  have hsl : ((spots ns).map V.str).length = ns.length + 1 := by rw [List.length_map, List.length_cons]
  refine ⟨_, rfl, sp, rfl, ⟨_, SqL.of hsp2⟩, fun g hg => ?_⟩
  have dT_keep : ∀ {H' : Hp} {q : Addr} {a b : Str}, Same H2 H' → IsPr H' q (a, b) → ∃ o, DGet H' bd (.ref q) o ∧ ((codeM m a b = none ∧ o = none) ∨ ∃ c v, look m (a, b) = some c ∧ o = some v ∧ RW K H' v c) := fun {H' q a b} s h => by
    obtain ⟨o, g1, g2⟩ := (dt2.mono (fun o e => s _ _ e) fun v b r => RW.same r s : DT (RW K) H' bd m).get h
    refine ⟨o, g1, ?_⟩
    rcases g2 with ⟨z1, z2⟩ | ⟨c, v, z1, z2, z3⟩
    · exact .inl ⟨by unfold codeM; rw [z1]; rfl, z2⟩
    · exact .inr ⟨c, v, z1, z2, z3⟩
  refine walk_turns (walk_list (K := K) (a := sp) (xs := (spots ns).map V.str)) (fun i H' => Same H2 H' ∧ ∃ as : List Addr, H' g = some (.lst (as.map V.ref)) ∧ (g :: as).Nodup ∧ (∀ a ∈ as, H2 a = none) ∧ Paired (fun (r : List Code') a => H' a = some (.lst (r.map cv))) (((spots ns).take i).map fun a => (spots ns).map fun b => codeM m a b) as)
    ⟨same_new hg _, [], upd_same, List.nodup_cons.mpr ⟨List.not_mem_nil, List.nodup_nil⟩, (fun _ h => nomatch h), .nil⟩ (fun i H' _ h => h.1.seq (SqL.of hsp2)) ?_ ?_
  · rintro i x H4 H5 hi ⟨s4, as, hg4, hnd4, hfr4, hP4⟩ ⟨rfl, hx⟩
    obtain ⟨a, ha, rfl⟩ := at_map hx
    have hal : as.length ≤ 21 := by
      have z := Paired.length hP4
      rw [List.length_map, List.length_take, List.length_cons] at z
      omega
    refine ⟨rfl, _, rfl, sp, rfl, ⟨_, s4.seq (SqL.of hsp2)⟩, fun D hD => ?_⟩
    refine walk_turns (walk_list (K := K) (a := sp) (xs := (spots ns).map V.str)) (fun j H' => Same H5 H' ∧ H' D = some (.lst (((spots ns).take j).map fun b => cv (codeM m a b))))
      ⟨same_new hD _, upd_same⟩ (fun i H' _ h => (s4.trans h.1).seq (SqL.of hsp2)) ?_ ?_
    · rintro j y H6 H7 hj ⟨s6, hD6⟩ ⟨rfl, hy⟩
      obtain ⟨b, hb, rfl⟩ := at_map hy
      have hlen : (((spots ns).take j).map fun b => cv (codeM m a b)).length < sizeLine := by
        rw [List.length_map, List.length_take, List.length_cons]
        exact small1000 (by omega)
      have fin : ∀ (q : Addr) (H8 : Hp), H8 = upd H7 q (.tup [.str a, .str b]) → H7 q = none → ∃ acc, H8 D = some (.lst acc) ∧ acc.length < sizeLine ∧ Same H5 (upd H8 D (.lst (acc ++ [cv (codeM m a b)]))) ∧ (upd H8 D (.lst (acc ++ [cv (codeM m a b)]))) D = some (.lst (((spots ns).take (j + 1)).map fun b => cv (codeM m a b))) := fun q H8 e hq => by
        subst e
        refine ⟨_, by rw [upd_ne (ne_of_none hD6 hq)]; exact hD6, hlen, fun b' o e => ?_, by rw [upd_same, take_snoc hb, List.map_append]; rfl⟩
        have e2 := s6 _ _ e
        rw [upd_ne (ne_of_none e hD), upd_ne (ne_of_none e2 hq)]
        exact e2
      refine ⟨rfl, _, rfl, bd, rfl, .inr ⟨kvs, .inl (s6 _ _ (s4 _ _ hkd))⟩, _, rfl, _, rfl, (by show 2 ≤ sizeLine; decide), fun q hq => ?_⟩
      obtain ⟨o, g1, g2⟩ := dT_keep (H' := upd H7 q (.tup [.str a, .str b])) (q := q) (a := a) (b := b) ((s4.trans s6).trans (same_new hq _)) upd_same
      refine ⟨o, g1, _, rfl, ?_⟩
      have fn := fin q _ rfl hq
      rcases g2 with ⟨z1, rfl⟩ | ⟨c, v, z1, rfl, t, rfl, hS⟩
      · refine .inl ⟨rfl, ?_⟩
        rw [z1] at fn
        exact fn
      · refine .inr ⟨t, c, rfl, .inr hS, ?_⟩
        have e : codeM m a b = some (codeB c) := by unfold codeM; rw [z1]; rfl
        rw [e] at fn
        exact fn
    · rintro H6 ⟨s6, hD6⟩
      rw [hsl, List.take_of_length_le (Nat.le_of_eq (List.length_cons ..))] at hD6
      have hg6 := s6 _ _ hg4
      refine ⟨as.map V.ref, hg6, by rw [List.length_map]; exact small1000 (by omega), fun b' o e => ?_, as ++ [D], by rw [List.map_append]; exact upd_same, ?_, fun a' ha' => (List.mem_append.mp ha').elim (hfr4 a') (fun z => by rw [List.mem_singleton.mp z]; exact s4.free hD), ?_⟩
      · rw [upd_ne (ne_of_none e hg)]
        exact s6 _ _ (s4 _ _ e)
      · have ngD : g ≠ D := ne_of_none hg4 hD
        obtain ⟨hgn, hnn⟩ := List.nodup_cons.mp hnd4
        refine List.nodup_cons.mpr ⟨fun hm => ?_, List.nodup_append.mpr ⟨hnn, List.pairwise_singleton _ _, fun x hx y hy e => ?_⟩⟩
        · rcases List.mem_append.mp hm with hm | hm
          · exact hgn hm
          · exact ngD (List.mem_singleton.mp hm)
        · rw [List.mem_singleton.mp hy] at e
          subst e
          obtain ⟨k, hk, ek⟩ := List.mem_iff_getElem.mp hx
          obtain ⟨r', _, hr'⟩ := paired_at hP4 (show as[k]? = some x by rw [List.getElem?_eq_getElem hk, ek])
          rw [hD] at hr'
          cases hr'
      · have ngD : g ≠ D := ne_of_none hg4 hD
        rw [take_snoc ha, List.map_append]
        refine Rw.Paired.snoc (paired_right hP4 fun r' a' hm z => ?_) ?_
        · rw [upd_ne fun e => (List.nodup_cons.mp hnd4).1 (by rw [← e]; exact hm)]
          exact s6 _ _ z
        · rw [upd_ne ngD.symm, hD6, List.map_map]
          rfl
  rintro H4 ⟨s4, as, hg4, hnd4, hfr4, hP4⟩
  rw [hsl, List.take_of_length_le (Nat.le_of_eq (List.length_cons ..))] at hP4
  obtain ⟨hgn, hnn⟩ := List.nodup_cons.mp hnd4
  have hal : as.length = ns.length + 1 := by
    have z := Paired.length hP4
    rw [List.length_map, List.length_cons] at z
    exact z.symm
  let R0 : Str → List Code' := fun a => (spots ns).map fun b => codeM m a b
  let R1 : Str → List Code' := fun a => (spots ns).map fun b => if a = b then some 1 else codeM m a b
  have hnn' : (((spots ns).map V.str).length : Int).toNat = ns.length + 1 := by rw [hsl]; rfl
  refine ⟨_, rfl, sp, _, rfl, .inl (s4.seq (SqL.of hsp2)), (((spots ns).map V.str).length : Nat), rfl, by omega, by rw [hsl]; omega, ?_⟩
  rw [hnn']
  refine for_it (walk_range (lo := 0) (n := ns.length + 1)) (fun i σ' H' => (∃ at' : Option V, σ' = [some (.ref p), some (.ref sp), some (.ref bd), some (.ref g), at', none, none]) ∧ Same H2 H' ∧ H' g = some (.lst (as.map V.ref)) ∧ Paired (fun (r : List Code') a => H' a = some (.lst (r.map cv))) (((spots ns).take i).map R1 ++ ((spots ns).drop i).map R0) as)
    ⟨⟨none, rfl⟩, s4, hg4, by rw [List.take_zero, List.drop_zero]; exact hP4⟩ (fun _ _ _ _ _ => True.intro) ?_ ?_
  · rintro i x σ' H5 H6 hi ⟨⟨at', rfl⟩, s5, hg5, hP5⟩ ⟨rfl, hx⟩
    have hx : x = .int (i : Nat) := by
      rw [hx]
      show V.int (0 + (i : Int)) = _
      rw [Int.zero_add]
    subst hx
    have his : i < (spots ns).length := by rw [List.length_cons]; omega
    obtain ⟨a, ha⟩ : ∃ a, (spots ns)[i]? = some a := ⟨_, List.getElem?_eq_getElem his⟩
    obtain ⟨ai, hai⟩ : ∃ ai, as[i]? = some ai := ⟨_, List.getElem?_eq_getElem (by omega)⟩
    have haim : ai ∈ as := List.mem_of_getElem? hai
    have hMl : (((spots ns).take i).map R1).length = i := by rw [List.length_map, List.length_take]; omega
    have hMi : (((spots ns).take i).map R1 ++ ((spots ns).drop i).map R0)[i]? = some (R0 a) := by
      rw [List.getElem?_append_right (by omega), hMl, Nat.sub_self, List.getElem?_map, List.getElem?_drop, Nat.add_zero, ha]
      rfl
    obtain ⟨r', hr', hrow⟩ := paired_at hP5 hai
    rw [hMi] at hr'
    cases hr'
    have ng : ai ≠ g := fun e => hgn (by rw [← e]; exact haim)
    have e1 : (as.map V.ref)[i]? = some (.ref ai) := by rw [List.getElem?_map, hai]; rfl
    have hH2 : H2 ai = none := hfr4 ai haim
    refine ⟨_, rfl, _, rfl, g, as.map V.ref, _, _, rfl, rfl, SqL.of hg5, atI_nat e1, _, rfl, ai, (R0 a).map cv, _, i, rfl, rfl, hrow, ixN_ok (by rw [List.length_map, List.length_map, List.length_cons]; omega), ⟨_, rfl⟩, fun b o e => ?_, ?_, ?_⟩
    · rw [upd_ne (ne_of_none e hH2)]
      exact s5 _ _ e
    · rw [upd_ne ng.symm]
      exact hg5
    · have eM : (((spots ns).take i).map R1 ++ ((spots ns).drop i).map R0).set i (R1 a) = ((spots ns).take (i + 1)).map R1 ++ ((spots ns).drop (i + 1)).map R0 := by
        have hd : (spots ns).drop i = a :: (spots ns).drop (i + 1) := by
          rw [List.drop_eq_getElem_cons his]
          congr 1
          exact (List.getElem?_eq_some_iff.mp ha).2
        rw [List.set_append_right _ _ (by omega), hMl, Nat.sub_self, hd, take_snoc ha, List.map_append, List.map_cons, List.append_assoc]
        rfl
      rw [← eM]
      refine paired_set hP5 hnn hai (fun r' a' n z => by rw [upd_ne n]; exact z) ?_
      rw [upd_same, set_diag ok.nd ha]
  · rintro σ' H5 ⟨⟨at', rfl⟩, s5, hg5, hP5⟩
    rw [List.take_of_length_le (Nat.le_of_eq (List.length_cons ..)), List.drop_eq_nil_of_le (Nat.le_of_eq (List.length_cons ..)), List.map_nil, List.append_nil] at hP5
    have sH : Same H H5 := s1.trans (s2.trans s5)
    refine ⟨_, rfl, q g H5 sH ?_ ⟨as, hg5, hP5⟩⟩
    exact s1.free (s2.free hg)
end
end Rw
set_option Elab.async false
set_option linter.all false
set_option maxRecDepth 100000
set_option maxHeartbeats 8000000
namespace Rw
open PySem L2
def matAt (M : Mat) (i j : Nat) : Code' := ((M[i]?.getD [])[j]?).getD none
/-- what a grid hands on as bounds: row by row, where the spots are unlike -/
def rowM (M : Mat) (ss : List Str) (a : Str) (i k : Nat) : List (Pr × Option Bd) := ((List.range k).filter fun j => decide (i ≠ j)).map fun j => ((a, ss[j]?.getD ""), (matAt M i j).map boundC)
def handM (M : Mat) (ss : List Str) (k : Nat) : List (Pr × Option Bd) := (List.range k).flatMap fun i => rowM M ss (ss[i]?.getD "") i ss.length
/-- the table's own bounds -/
def boundM (ns : List Str) (M : Mat) : List (Pr × Bd) := keptB (handM M (spots ns) (ns.length + 1)) (crossP (spots ns) (spots ns))
theorem rowM_key {M : Mat} {ss : List Str} {a : Str} {i k : Nat} {e : Pr × Option Bd} (h : e ∈ rowM M ss a i k) : ∃ j, j < k ∧ i ≠ j ∧ e.1 = (a, ss[j]?.getD "") ∧ e.2 = (matAt M i j).map boundC := by
  unfold rowM at h
  obtain ⟨j, hj, rfl⟩ := List.mem_map.mp h
  obtain ⟨h1, h2⟩ := List.mem_filter.mp hj
  exact ⟨j, List.mem_range.mp h1, of_decide_eq_true h2, rfl, rfl⟩
theorem handM_key {M : Mat} {ss : List Str} {k : Nat} {e : Pr × Option Bd} (h : e ∈ handM M ss k) : ∃ i j, i < k ∧ j < ss.length ∧ i ≠ j ∧ e.1 = (ss[i]?.getD "", ss[j]?.getD "") ∧ e.2 = (matAt M i j).map boundC := by
  unfold handM at h
  obtain ⟨i, hi, h⟩ := List.mem_flatMap.mp h
  obtain ⟨j, h1, h2, h3, h4⟩ := rowM_key h
  exact ⟨i, j, List.mem_range.mp hi, h1, h2, h3, h4⟩
theorem rowM_len {M : Mat} {ss : List Str} {a : Str} {i k : Nat} : (rowM M ss a i k).length ≤ k := by
  unfold rowM
  rw [List.length_map]
  have z := List.length_filter_le (fun j => decide (i ≠ j)) (List.range k)
  rwa [List.length_range] at z
theorem handM_succ {M : Mat} {ss : List Str} {k : Nat} : handM M ss (k + 1) = handM M ss k ++ rowM M ss (ss[k]?.getD "") k ss.length := by
  unfold handM
  rw [List.range_succ, List.flatMap_append, List.flatMap_cons, List.flatMap_nil, List.append_nil]
theorem handM_len {M : Mat} {ss : List Str} : ∀ {k : Nat}, (handM M ss k).length ≤ k * ss.length
  | 0 => Nat.zero_le _
  | k + 1 => by
    have z := handM_len (M := M) (ss := ss) (k := k)
    have y := rowM_len (M := M) (ss := ss) (a := ss[k]?.getD "") (i := k) (k := ss.length)
    rw [handM_succ, List.length_append, Nat.succ_mul]
    omega
theorem rowM_yes {M : Mat} {ss : List Str} {a : Str} {i j : Nat} (h : i ≠ j) : rowM M ss a i (j + 1) = rowM M ss a i j ++ [((a, ss[j]?.getD ""), (matAt M i j).map boundC)] := by
  unfold rowM
  rw [List.range_succ, List.filter_append, List.map_append]
  simp [h]
theorem rowM_no {M : Mat} {ss : List Str} {a : Str} {i : Nat} : rowM M ss a i (i + 1) = rowM M ss a i i := by
  unfold rowM
  rw [List.range_succ, List.filter_append, List.map_append]
  simp
theorem at_inj {α : Type} {xs : List α} (hn : xs.Nodup) {i j : Nat} {x : α} (hi : xs[i]? = some x) (hj : xs[j]? = some x) : i = j := by
  obtain ⟨h1, e1⟩ := List.getElem?_eq_some_iff.mp hi
  obtain ⟨h2, e2⟩ := List.getElem?_eq_some_iff.mp hj
  exact (List.getElem_inj hn).mp (e1.trans e2.symm)
theorem RO.put {K : PySem.W.Frag} {H : Hp} {d : Addr} {o : HO} {kvs : List (List Key × V)} {v : V} {b : Option Bd} (e : H d = some (.dT kvs)) (h : Rw.RO K H v b) : Rw.RO K (upd H d o) v b := by
  rcases h with h | ⟨bd, a, e1, e2, h⟩
  · exact .inl h
  · refine .inr ⟨bd, a, e1, e2, ?_⟩
    rcases h with ((h | ⟨u, h⟩) | h) | ((h | ⟨u, h⟩) | h)
    · exact .inl (.inl (.inl (by rw [upd_ne (ne_of h e fun z => nomatch z)]; exact h)))
    · exact .inl (.inl (.inr ⟨u, by rw [upd_ne (ne_of h e fun z => nomatch z)]; exact h⟩))
    · exact .inl (.inr h)
    · exact .inr (.inl (.inl (by rw [upd_ne (ne_of h e fun z => nomatch z)]; exact h)))
    · exact .inr (.inl (.inr ⟨u, by rw [upd_ne (ne_of h e fun z => nomatch z)]; exact h⟩))
    · exact .inr (.inr h)
structure Sq (M : Mat) (n : Nat) : Prop where
  rows : M.length = n
  cols : ∀ r ∈ M, r.length = n
theorem Sq.row {M : Mat} {n i : Nat} (h : Sq M n) (hi : i < n) : ∃ r, M[i]? = some r ∧ r.length = n ∧ ∀ j, matAt M i j = (r[j]?).getD none := by
  have hi' : i < M.length := by rw [h.rows]; exact hi
  refine ⟨M[i], List.getElem?_eq_getElem hi', h.cols _ (List.getElem_mem hi'), fun j => ?_⟩
  unfold matAt
  rw [List.getElem?_eq_getElem hi']
  rfl
section
variable {P : Program} {w : World} {K : PySem.W.Frag} {mg : Str → Option Value} {base : Heap}
def spTableOf (K : PySem.W.Frag) (C : Addr) : Sp := fun vs H Q _ => ∃ (l g : Addr) (ns : List Str) (M : Mat), vs = [.ref l, .ref g] ∧ H l = some (.lst (ns.map V.str)) ∧ Grid H g M ∧ Sq M (ns.length + 1) ∧ (spots ns).Nodup ∧ (∀ x ∈ ns, nameB x = true ∧ x.length ≤ 1000) ∧ (∀ x ∈ ns, PyData.strOk x = true) ∧ ns.length ≤ 20 ∧
  ∀ (p : Addr) (H' : Hp), Same H H' → H p = none → Tab K C H' p ns (boundM ns M) → Q (.ref p) H'
theorem scTableOf : FnScope ["names", "grid", "spots", "i", "one", "j", "other"] ["names", "grid"] (defScope sTableOf) := ⟨rfl, rfl, rfl, by decide +kernel, rfl, by decide +kernel, by decide +kernel⟩
theorem ok_table_of {f fu ft C : Addr} {fd fdu fdt : FuncData} (F : Fun K "table_of" "table_of" sTableOf f fd) (GU : FnOk P w K mg base CX0 1 fu fdu ["code"] spUpperOf) (bU : Binds K fdu ["code"] []) (kU : PySem.W.keepIn K (.ref fu) = true) (mU : mg "upper_of" = some (.ref fu))
    (GT : FnOk P w K mg base CX0 4 ft fdt ["self", "names", "bounds"] (spTInit K C)) (MT : Mk K C ft) (bT : Binds K fdt ["self", "names", "bounds"] []) (mC : mg "Table" = some (.ref C)) (ml : mg "list" = none) (me : mg "enumerate" = none) :
    FnOk P w K mg base CX0 6 f fd ["names", "grid"] (spTableOf K C) := by
  refine F.ok scTableOf (fun vs H Q E h => ?_) (fun cdv A outer s H vs Q E hr h => ?_)
  · obtain ⟨l, g, ns, M, rfl, _⟩ := h
    rfl
  obtain ⟨l, g, ns, M, rfl, hl, hG, hM, hnd, hgood, hsok, few, q⟩ := h
  have hu := hu_of hr
  have eT : ∀ {x} {k : Nat} {vs}, (gTup K k vs) = gTup x k vs → True := fun _ => True.intro
  refine ⟨_, pss_cons (ps_set (i := 2) scTableOf.nd rfl (Or.inr rfl) (pe_listEnum rfl (pe_op op_cat (pe_lst (pa_cons pe_str pa_nil)) (pv 0)) rfl ml rfl me))
    (pss_one (ps_ret (pe_make MT GT hr rfl mC bT .nil pass0 (pa_cons (pv 0) (pa_cons
      (pe_dcO2 (.inr rfl) (own := [("i", 3), ("one", 4), ("j", 5), ("other", 6)]) (us := [5, 6]) (g := gTup K 2 (gCons (gName 3) (gCons (gName 4) gNil))) (g1 := gTup K 2 (gCons (gName 5) (gCons (gName 6) gNil))) (wi1 := iList K (tVar 2))
        (tk := tTup (tCons (tVar 4) (tCons (tVar 6) tNil))) (tv := tCall spUpperOf [] E0 (tCons (tOp (rIxL K) (tOp (rIxL K) (tVar 1) (tVar 3)) (tVar 5)) tNil)) rfl (Nat.lt_of_succ_lt hu) scTableOf.nd (pi_list (pv 2)) (blkOk_by (N := ["names", "grid", "spots", "i", "one", "j", "other"]) (sc := defScope sTableOf) (by decide +kernel)) (by decide)
        (fun _ _ _ _ _ => pg_tup rfl (pgs_cons (pg_name (i := 3) scTableOf.nd rfl (Or.inl rfl)) (pgs_cons (pg_name (i := 4) scTableOf.nd rfl (Or.inl rfl)) pgs_nil))) (fun _ _ _ _ _ => pts_nil)
        (fun _ _ _ _ _ => pi_list (pv 2)) (fun _ _ _ _ _ => pg_tup rfl (pgs_cons (pg_name (i := 5) scTableOf.nd rfl (Or.inl rfl)) (pgs_cons (pg_name (i := 6) scTableOf.nd rfl (Or.inl rfl)) pgs_nil)))
        (fun _ _ _ _ _ => pts_one (pt_cmpR op_ne (pv 3) (pv 5) (nomark _)))
        (fun _ _ _ _ _ => pe_tup (pa_cons (pv 4) (pa_cons (pv 6) pa_nil)))
        (fun _ _ _ _ _ => pe_call GU (hr.mono (by decide)) rfl mU kU bU .nil pass0 (pa_cons (pe_ix ix_list (pe_ix ix_list (pv 1) (pv 3) (fun _ _ => rfl)) (pv 5) (fun _ _ => rfl)) pa_nil))) pa_nil))))), ?_⟩
  refine ⟨(by show 1 ≤ sizeLine; decide), fun p1 hp1 => ⟨_, rfl, p1, l, _, _, rfl, rfl, upd_same, (by rw [upd_ne (ne_of_none hl hp1)]; exact hl), ?_, fun e1 he1 => ?_⟩⟩
  · rw [List.length_map]
    exact Nat.le_of_lt (small1000 (show 1 + ns.length ≤ 1000 by omega))
  have s1 : Same H (upd (upd H p1 (.lst [.str ""])) e1 (.lst ([.str ""] ++ ns.map V.str))) := (same_new hp1 _).trans (same_new he1 _)
  have he1' : (upd (upd H p1 (.lst [.str ""])) e1 (.lst ([.str ""] ++ ns.map V.str))) e1 = some (.lst ((spots ns).map V.str)) := upd_same
  generalize upd (upd H p1 (.lst [.str ""])) e1 (.lst ([.str ""] ++ ns.map V.str)) = H1 at s1 he1'
  refine ⟨e1, _, rfl, SqL.of he1', fun H2 sp ts s2 hsp hts hsp2 htl hat => ?_⟩
  have hsl : ((spots ns).map V.str).length = ns.length + 1 := by rw [List.length_map, List.length_cons]
  rw [hsl] at htl
  have sH2 : Same H H2 := s1.trans s2
  have hat : ∀ (j : Nat) (t : Addr), ts[j]? = some t → ∃ x, (spots ns)[j]? = some x ∧ H2 t = some (.tup [.int (j : Nat), .str x]) := fun j t e => by
    obtain ⟨x, h1, h2⟩ := hat j t e
    obtain ⟨y, h3, rfl⟩ := at_map h1
    exact ⟨y, h3, h2⟩
  obtain ⟨as, hg, hrows⟩ := hG
  have ssl : (spots ns).length = ns.length + 1 := List.length_cons ..
  have hHl : ∀ k, k ≤ ns.length + 1 → (handM M (spots ns) k).length ≤ 21 * 21 := fun k hk => Nat.le_trans handM_len (by rw [ssl]; exact Nat.mul_le_mul (by omega) (by omega))
  refine ⟨_, rfl, _, rfl, sp, rfl, ⟨_, SqL.of hsp2⟩, fun r hr2 => ?_⟩
  refine turns_it (walk_list (K := K) (a := sp) (xs := ts.map V.ref)) (fun i H' => Same H2 H' ∧ DT (RO K) H' r (handM M (spots ns) i)) ⟨same_new hr2 _, [], upd_same, .nil⟩ (fun i H' _ h => h.1.seq (SqL.of hsp2)) ?_ ?_
  · rintro i x H3 H4 hi ⟨s3, hD3⟩ ⟨rfl, hx⟩
    obtain ⟨t, ht, rfl⟩ := at_map hx
    obtain ⟨a, ha, hta⟩ := hat i t ht
    have hi1 : i < ns.length + 1 := by
      have z := (List.getElem?_eq_some_iff.mp ht).1
      omega
    have ga : (spots ns)[i]?.getD "" = a := by rw [ha]; rfl
    refine ⟨t, _, rfl, SqT.of (s3 _ _ hta), rfl, _, _, rfl, _, _, rfl, rfl, rfl, ?_⟩
    refine ⟨_, rfl, sp, rfl, ⟨_, SqL.of (s3 _ _ hsp2)⟩, ?_⟩
    refine turns_it (walk_list (K := K) (a := sp) (xs := ts.map V.ref)) (fun j H' => Same H2 H' ∧ DT (RO K) H' r (handM M (spots ns) i ++ rowM M (spots ns) a i j)) ⟨s3, by unfold rowM; rw [List.range_zero]; show DT (RO K) H4 r (handM M (spots ns) i ++ []); rw [List.append_nil]; exact hD3⟩ (fun i H' _ h => h.1.seq (SqL.of hsp2)) ?_ ?_
    · rintro j y H5 H6 hj ⟨s5, hD5⟩ ⟨rfl, hy⟩
      obtain ⟨u, hu2, rfl⟩ := at_map hy
      obtain ⟨b, hb, hub⟩ := hat j u hu2
      have hj1 : j < ns.length + 1 := by
        have z := (List.getElem?_eq_some_iff.mp hu2).1
        omega
      have gb : (spots ns)[j]?.getD "" = b := by rw [hb]; rfl
      refine ⟨u, _, rfl, SqT.of (s5 _ _ hub), rfl, _, _, rfl, _, _, rfl, rfl, rfl, ?_⟩
      refine ⟨_, rfl, _, rfl, rfl, _, rfl, ?_⟩
      by_cases hij : i = j
      · subst hij
        refine (if_neg (by rw [decide_eq_true rfl]; decide)).mpr ⟨s5, ?_⟩
        rw [rowM_no]
        exact hD5
      · have hne : ¬ V.int ((i : Nat) : Int) = V.int ((j : Nat) : Int) := fun e => hij (by injection e with e; omega)
        refine (if_pos (by rw [decide_eq_false hne]; rfl)).mpr ?_
        obtain ⟨row, hrow, hrl, hmat⟩ := hM.row hi1
        have hrowa : ∃ ai, as[i]? = some ai ∧ H ai = some (.lst (row.map cv)) := by
          have z : i < as.length := by rw [← Paired.length hrows, hM.rows]; exact hi1
          obtain ⟨r', h1, h2⟩ := paired_at hrows (List.getElem?_eq_getElem z)
          rw [hrow] at h1
          cases h1
          exact ⟨_, List.getElem?_eq_getElem z, h2⟩
        obtain ⟨ai, hai, hH⟩ := hrowa
        have hcell : (row.map cv)[j]? = some (cv (matAt M i j)) := by
          have z : j < row.length := by omega
          rw [hmat j, List.getElem?_map, List.getElem?_eq_getElem z]
          rfl
        have e1 : (as.map V.ref)[i]? = some (.ref ai) := by rw [List.getElem?_map, hai]; rfl
        refine ⟨_, rfl, _, rfl, (by show 2 ≤ sizeLine; decide), fun q1 hq1 => ?_⟩
        have s6 : Same H2 (upd H6 q1 (.tup [.str a, .str b])) := s5.trans (same_new hq1 _)
        have hq2 : IsPr (upd H6 q1 (.tup [.str a, .str b])) q1 (a, b) := upd_same
        have hD6 : DT (RO K) (upd H6 q1 (.tup [.str a, .str b])) r (handM M (spots ns) i ++ rowM M (spots ns) a i j) := hD5.mono (fun o e => by rw [upd_ne (ne_of_none e hq1)]; exact e) fun v b h => RO.same h (same_new hq1 _)
        generalize upd H6 q1 (.tup [.str a, .str b]) = H7 at s6 hq2 hD6
        have fresh : look (handM M (spots ns) i ++ rowM M (spots ns) a i j) (a, b) = none := look_none fun e he z => by
          rcases List.mem_append.mp he with he | he
          · obtain ⟨i', j', h1, h2, h3, h4, _⟩ := handM_key he
            rw [z] at h4
            injection h4 with h4 _
            have z1 : i' < (spots ns).length := by rw [ssl]; omega
            rw [List.getElem?_eq_getElem z1] at h4
            have y := at_inj hnd ha (show (spots ns)[i']? = some a by rw [List.getElem?_eq_getElem z1]; exact congrArg some h4.symm)
            omega
          · obtain ⟨j', h1, h2, h3, _⟩ := rowM_key he
            rw [z] at h3
            injection h3 with _ h3
            have z1 : j' < (spots ns).length := by rw [ssl]; omega
            rw [List.getElem?_eq_getElem z1] at h3
            have y := at_inj hnd hb (show (spots ns)[j']? = some b by rw [List.getElem?_eq_getElem z1]; exact congrArg some h3.symm)
            omega
        have hkl : (handM M (spots ns) i ++ rowM M (spots ns) a i j).length < sizeLine := by
          have z1 := hHl i (by omega)
          have z2 := rowM_len (M := M) (ss := spots ns) (a := a) (i := i) (k := j)
          rw [List.length_append]
          exact small1000 (by omega)
        have fin : ∀ (v : V) (H8 : Hp), Same H7 H8 → RO K H8 v ((matAt M i j).map boundC) → DT (RO K) H8 r (handM M (spots ns) i ++ rowM M (spots ns) a i j) → ∃ H9, DPut H8 r (.ref q1) v H9 ∧ Same H2 H9 ∧ DT (RO K) H9 r (handM M (spots ns) i ++ rowM M (spots ns) a i (j + 1)) := fun v H8 s8 rv hD8 => by
          obtain ⟨o, dp, dt⟩ := hD8.put (hq2.same s8) fresh hkl rv fun o kvs v b e h => RO.put e h
          refine ⟨_, dp, fun b' o e => ?_, ?_⟩
          · rw [upd_ne (ne_of_none e hr2)]
            exact s8 _ _ (s6 _ _ e)
          · rw [rowM_yes hij, ← List.append_assoc, gb]
            exact dt
        refine ⟨_, rfl, _, rfl, g, as.map V.ref, _, _, rfl, rfl, SqL.of (s6 _ _ (sH2 _ _ hg)), atI_nat e1, _, rfl, ai, row.map cv, _, _, rfl, rfl, SqL.of (s6 _ _ (sH2 _ _ hH)), atI_nat hcell, matAt M i j, rfl, fun e => ?_, fun k e r' hr' => ?_⟩
        · exact fin _ H7 (Same.refl _) (.inl ⟨by rw [e]; rfl, rfl⟩) hD6
        · exact fin _ _ (same_new hr' _) (.inr ⟨boundC k, r', by rw [e]; rfl, rfl, .inr (SqT.of upd_same)⟩) (hD6.mono (fun o e => by rw [upd_ne (ne_of_none e hr')]; exact e) fun v b h => RO.same h (same_new hr' _))
    · rintro H5 ⟨s5, hD5⟩
      refine ⟨s5, ?_⟩
      rw [List.length_map, htl] at hD5
      rw [handM_succ, ga, ssl]
      exact hD5
  · rintro H3 ⟨s3, hD3⟩
    rw [List.length_map, htl] at hD3
    intro x dx hx hdx hne
    have sM : Same H3 (upd (upd H3 dx (.own x)) x (.ins C dx [])) := fun b o e => by
      rw [upd_ne (ne_of_none e hx), upd_ne (ne_of_none e hdx)]
      exact e
    have M3 : Makes K H3 l r ns (handM M (spots ns) (ns.length + 1)) := by
      refine ⟨.inl (SqL.of (s3 _ _ (sH2 _ _ hl))), hnd, hgood, hsok, few, hD3, fun e he => ?_, Nat.le_trans (hHl _ (Nat.le_refl _)) (by decide)⟩
      obtain ⟨i, j, h1, h2, h3, h4, _⟩ := handM_key he
      have z1 : i < (spots ns).length := by rw [ssl]; exact h1
      rw [List.getElem?_eq_getElem z1, List.getElem?_eq_getElem h2] at h4
      have h4 : e.1 = ((spots ns)[i], (spots ns)[j]) := h4
      rw [h4]
      refine ⟨List.getElem_mem z1, List.getElem_mem h2, fun e => h3 ?_⟩
      exact (List.getElem_inj hnd).mp e
    refine ⟨H3, x, dx, l, r, ns, _, rfl, sM, hx, upd_same, M3.same sM, fun H4 s4 T => ⟨rfl, ?_⟩⟩
    exact q x H4 (sH2.trans (s3.trans s4)) (sH2.free (s3.free hx)) T
end
end Rw
set_option Elab.async false
set_option linter.all false
set_option maxRecDepth 100000
set_option maxHeartbeats 8000000
namespace Rw
open PySem L2
/-! ### a grid shut -/
def stepR (M : Mat) (k : Nat) (r : List Code') (j : Nat) : Code' := tightC ((r[j]?).getD none) (sumC ((r[k]?).getD none) (matAt M k j))
def stepM (n k : Nat) (M : Mat) : Mat := M.map fun r => (List.range n).map (stepR M k r)
def badC : Code' → Bool
  | some c => decide (c < 1)
  | none => false
def negD (n : Nat) (M : Mat) : Bool := (List.range n).any fun i => badC (matAt M i i)
def shutF (n : Nat) : List Nat → Mat → Option Mat
  | [], M => some M
  | k :: ks, M => if negD n (stepM n k M) = true then none else shutF n ks (stepM n k M)
def shutM (n : Nat) (M : Mat) : Option Mat := shutF n (List.range n) M
theorem step_sq {M : Mat} {n k : Nat} (h : Sq M n) : Sq (stepM n k M) n :=
  ⟨by unfold stepM; rw [List.length_map]; exact h.rows, fun r hr => by
    obtain ⟨r', _, rfl⟩ := List.mem_map.mp hr
    rw [List.length_map, List.length_range]⟩
theorem step_at {M : Mat} {n k i j : Nat} (h : Sq M n) (hi : i < n) (hj : j < n) : matAt (stepM n k M) i j = tightC (matAt M i j) (sumC (matAt M i k) (matAt M k j)) := by
  obtain ⟨r, hr, hl, hm⟩ := h.row hi
  have e : matAt (stepM n k M) i j = stepR M k r j := by
    unfold matAt stepM
    rw [List.getElem?_map, hr]
    show (((List.range n).map (stepR M k r))[j]?).getD none = _
    rw [List.getElem?_map, List.getElem?_range hj]
    rfl
  rw [e, hm j, hm k]
  rfl
/-- where a spot meets itself there is a bound -/
def Diag (n : Nat) (M : Mat) : Prop := ∀ i, i < n → ∃ c, matAt M i i = some c
theorem tight_some {x y : Code'} (h : ∃ c, x = some c) : ∃ c, tightC x y = some c := by
  obtain ⟨c, rfl⟩ := h
  cases y with
  | none => exact ⟨c, rfl⟩
  | some d =>
    show ∃ e, (if c < d then some c else some d) = some e
    split
    · exact ⟨_, rfl⟩
    · exact ⟨_, rfl⟩
theorem step_diag {M : Mat} {n k : Nat} (h : Sq M n) (d : Diag n M) : Diag n (stepM n k M) := fun i hi => by
  rw [step_at h hi hi]
  exact tight_some (d i hi)
theorem row_cell {r : List Code'} {n j : Nat} (hl : r.length = n) (hj : j < n) : (r.map cv)[j]? = some (cv ((r[j]?).getD none)) := by
  rw [List.getElem?_map, List.getElem?_eq_getElem (by omega)]
  rfl
theorem Grid.row {H : Hp} {g : Addr} {M : Mat} {n i : Nat} {as : List Addr} (hp : Paired (fun (r : List Code') a => H a = some (.lst (r.map cv))) M as) (hM : Sq M n) (hi : i < n) :
    ∃ r a, M[i]? = some r ∧ as[i]? = some a ∧ (as.map V.ref)[i]? = some (.ref a) ∧ H a = some (.lst (r.map cv)) ∧ r.length = n ∧ ∀ j, matAt M i j = (r[j]?).getD none := by
  obtain ⟨r, hr, hl, hm⟩ := hM.row hi
  have z : i < as.length := by rw [← Paired.length hp, hM.rows]; exact hi
  obtain ⟨r', h1, h2⟩ := paired_at hp (List.getElem?_eq_getElem z)
  rw [hr] at h1
  cases h1
  exact ⟨r, as[i], hr, List.getElem?_eq_getElem z, by rw [List.getElem?_map, List.getElem?_eq_getElem z]; rfl, h2, hl, hm⟩
section
variable {P : Program} {w : World} {K : PySem.W.Frag} {mg : Str → Option Value} {base : Heap}
def spShut : Sp := fun vs H Q _ => ∃ (g : Addr) (M : Mat) (n : Nat), vs = [.ref g] ∧ Grid H g M ∧ Sq M n ∧ n ≤ 21 ∧ Diag n M ∧
  ∀ (v : V) (H' : Hp), Same H H' → ((shutM n M = none ∧ v = .non) ∨ ∃ g' M', shutM n M = some M' ∧ v = .ref g' ∧ Grid H' g' M' ∧ Sq M' n) → Q v H'
theorem scShut : FnScope ["grid", "size", "way", "at", "row"] ["grid"] (defScope sShut) := ⟨rfl, rfl, rfl, by decide +kernel, rfl, by decide +kernel, by decide +kernel⟩
theorem ok_shut {f ft fc : Addr} {fd fdt fdc : FuncData} (F : Fun K "shut" "shut" sShut f fd) (GT : FnOk P w K mg base CX0 1 ft fdt ["one", "other"] spTighter) (GC : FnOk P w K mg base CX0 1 fc fdc ["one", "other"] spCodeSum) (bT : Binds K fdt ["one", "other"] []) (bC : Binds K fdc ["one", "other"] [])
    (kT : PySem.W.keepIn K (.ref ft) = true) (kC : PySem.W.keepIn K (.ref fc) = true) (mT : mg "tighter_code" = some (.ref ft)) (mC : mg "code_sum" = some (.ref fc)) (ml : mg "len" = none) (mr : mg "range" = none) (ma : mg "any" = none) {tk : Tok} (mU : mg "UPTO_ZERO" = some (.int 1 tk)) :
    FnOk P w K mg base CX0 2 f fd ["grid"] spShut := by
  refine F.ok scShut (fun vs H Q E h => ?_) (fun cdv A outer s H vs Q E hr h => ?_)
  · obtain ⟨g, M, n, rfl, _⟩ := h
    rfl
  obtain ⟨g, M, n, rfl, hG, hM, hn, hD, q⟩ := h
  refine ⟨_, pss_cons (ps_set (i := 1) scShut.nd rfl (Or.inr rfl) (pe_callB call_len_seq rfl ml PySem.boot_len (pa_cons (pv 0) pa_nil)))
    (pss_cons (ps_for PassesOwn.never rfl (pi_range1 rfl mr (pa_cons (pv 1) pa_nil)) (pg_name (i := 2) scShut.nd rfl (Or.inr rfl))
      (pss_cons (ps_set (i := 0) scShut.nd rfl (Or.inr rfl) (pe_lc (own := [("row", 4)]) (g := gName 4)
          (te := tLc (iRng1 (tCons (tVar 1) tNil)) (gName 3) tYes (tCall spTighter [] E0 (tCons (tOp (rIxL K) (tVar 4) (tVar 3)) (tCons (tCall spCodeSum [] E0 (tCons (tOp (rIxL K) (tVar 4) (tVar 2)) (tCons (tOp (rIxL K) (tOp (rIxL K) (tVar 0) (tVar 2)) (tVar 3)) tNil))) tNil))) [3])
          rfl scShut.nd (pi_list (pv 0)) (blkOk_by (N := ["grid", "size", "way", "at", "row"]) (sc := defScope sShut) (by decide +kernel))
          (fun _ _ _ _ _ => pg_name (i := 4) scShut.nd rfl (Or.inr rfl)) (fun _ _ _ _ _ => pts_nil)
          (fun _ _ _ _ _ => pe_lc (own := [("at", 3)]) (g := gName 3) rfl scShut.nd (pi_range1 rfl mr (pa_cons (pv 1) pa_nil)) (blkOk_by (N := ["grid", "size", "way", "at", "row"]) (by rfl))
            (fun _ _ _ _ _ => pg_name (i := 3) scShut.nd rfl (Or.inl rfl)) (fun _ _ _ _ _ => pts_nil)
            (fun _ _ _ _ _ => pe_call GT hr rfl mT kT bT .nil pass0 (pa_cons (pe_ix ix_list (pv 4) (pv 3) (fun _ _ => rfl)) (pa_cons (pe_call GC hr rfl mC kC bC .nil pass0 (pa_cons (pe_ix ix_list (pv 4) (pv 2) (fun _ _ => rfl)) (pa_cons (pe_ix ix_list (pe_ix ix_list (pv 0) (pv 2) (fun _ _ => rfl)) (pv 3) (fun _ _ => rfl)) pa_nil))) pa_nil))))))
      (pss_one (ps_if (pt_val (pe_callB (cr_any rfl) rfl ma (by decide +kernel) (pa_cons (pe_lc (own := [("at", 3)]) (g := gName 3) (te := tOp (rI0 fun i j => .bl (decide (i < j))) (tOp (rIxL K) (tOp (rIxL K) (tVar 0) (tVar 3)) (tVar 3)) (tC (.int 1)))
          rfl scShut.nd (pi_range1 rfl mr (pa_cons (pv 1) pa_nil)) (blkOk_by (N := ["grid", "size", "way", "at", "row"]) (sc := defScope sShut) (by decide +kernel)) (fun _ _ _ _ _ => pg_name (i := 3) scShut.nd rfl (Or.inl rfl)) (fun _ _ _ _ _ => pts_nil)
          (fun _ _ _ _ _ => pe_cmpR op_lt (pe_ix ix_list (pe_ix ix_list (pv 0) (pv 3) (fun _ _ => rfl)) (pv 3) (fun _ _ => rfl)) (pe_glob (v := .int 1) rfl mU ⟨_, rfl⟩) (nomark _))) pa_nil))) (pss_one (ps_ret pe_non)) pss_nil))))
    (pss_one (ps_ret (pv 0)))), ?_⟩
  have big : ∀ m : Nat, m ≤ 21 → (-(2 ^ 62) : Int) ≤ ((m : Nat) : Int) ∧ ((m : Nat) : Int) < 2 ^ 62 := fun m hm => ⟨by omega, by omega⟩
  have zi : ∀ {i : Nat} {x : V}, x = (fun i : Nat => V.int (0 + (i : Int))) i → x = .int (i : Nat) := fun {i x} e => by
    rw [e]
    show V.int (0 + (i : Int)) = _
    rw [Int.zero_add]
  obtain ⟨as0, hg0, hP0⟩ := id hG
  have hl0 : (as0.map V.ref).length = n := by rw [List.length_map, ← Paired.length hP0]; exact hM.rows
  refine ⟨_, rfl, g, _, rfl, .inl (SqL.of hg0), ?_⟩
  rw [hl0]
  refine ⟨_, rfl, (n : Nat), rfl, (big n hn).1, (big n hn).2, ?_⟩
  rw [Int.toNat_natCast]
  refine for_it (walk_range (lo := 0) (n := n)) (fun i σ' H' => ∃ (gi : Addr) (Mi : Mat) (way : Option V), σ' = [some (.ref gi), some (.int (n : Nat)), way, none, none] ∧ Same H H' ∧ Grid H' gi Mi ∧ Sq Mi n ∧ Diag n Mi ∧ shutF n ((List.range n).drop i) Mi = shutM n M)
    ⟨g, M, none, rfl, Same.refl _, hG, hM, hD, rfl⟩ (fun _ _ _ _ _ => True.intro) ?_ ?_
  · rintro i x σ' H1 H2 hi ⟨gi, Mi, way, rfl, s1, ⟨as, hg, hP⟩, hMi, hDi, hF⟩ ⟨rfl, hx⟩
    have hx := zi hx
    subst hx
    have hdr : (List.range n).drop i = i :: (List.range n).drop (i + 1) := by
      rw [List.drop_eq_getElem_cons (by rw [List.length_range]; exact hi), List.getElem_range]
    rw [hdr] at hF
    have hasl : (as.map V.ref).length = n := by rw [List.length_map, ← Paired.length hP]; exact hMi.rows
    obtain ⟨rk, ak, hrk, hak, hak', hHk, hrkl, hmk⟩ := Grid.row (H := H2) (g := gi) hP hMi hi
    refine ⟨_, rfl, gi, rfl, ⟨_, SqL.of hg⟩, fun D hD => ?_⟩
    refine walk_turns (walk_list (K := K) (a := gi) (xs := as.map V.ref)) (fun j H' => Same H2 H' ∧ ∃ bs : List Addr, H' D = some (.lst (bs.map V.ref)) ∧ (∀ b ∈ bs, b ≠ D) ∧ Paired (fun (r : List Code') a => H' a = some (.lst (r.map cv))) ((Mi.take j).map fun r => (List.range n).map (stepR Mi i r)) bs)
      ⟨same_new hD _, [], upd_same, (fun _ h => nomatch h), .nil⟩ (fun j H' _ h => h.1.seq (SqL.of hg)) ?_ ?_
    · rintro j y H3 H4 hj ⟨s3, bs, hD3, hbD, hP3⟩ ⟨rfl, hy⟩
      rw [hasl] at hj
      obtain ⟨r, ar, hr', har, har', hHr, hrl, hmr⟩ := Grid.row (H := H2) (g := gi) hP hMi hj
      rw [har'] at hy
      cases hy
      have hbl : bs.length ≤ 21 := by
        have z := Paired.length hP3
        rw [List.length_map, List.length_take] at z
        omega
      refine ⟨rfl, _, rfl, (n : Nat), rfl, (big n hn).1, (big n hn).2, fun D2 hD2 => ?_⟩
      rw [Int.toNat_natCast]
      refine walk_turns (walk_range (lo := 0) (n := n)) (fun c H' => Same H4 H' ∧ H' D2 = some (.lst (((List.range c).map (stepR Mi i r)).map cv))) ⟨same_new hD2 _, upd_same⟩ (fun _ _ _ _ => True.intro) ?_ ?_
      · rintro c z H5 H6 hc ⟨s5, hD5⟩ ⟨rfl, hz⟩
        have hz := zi hz
        subst hz
        have s6 : Same H2 H6 := s3.trans s5
        have r1 : SqL K H6 ar (r.map cv) := SqL.of (s6 _ _ hHr)
        have r2 : SqL K H6 ak (rk.map cv) := SqL.of (s6 _ _ hHk)
        have lt : (((List.range c).map (stepR Mi i r)).map cv).length < sizeLine := by
          rw [List.length_map, List.length_map, List.length_range]
          exact small1000 (by omega)
        refine ⟨rfl, _, rfl, _, rfl, ar, _, _, _, rfl, rfl, r1, atI_nat (row_cell hrl hc), _, rfl, _, rfl, ar, _, _, _, rfl, rfl, r1, atI_nat (row_cell hrl hi), _, rfl, _, rfl, gi, _, _, _, rfl, rfl, SqL.of (s6 _ _ hg), atI_nat hak', _, rfl, ak, _, _, _, rfl, rfl, r2, atI_nat (row_cell hrkl hc), _, _, rfl, _, _, rfl, _, hD5, lt, fun b o e => ?_, ?_⟩
        · rw [upd_ne (ne_of_none e hD2)]
          exact s5 _ _ e
        · rw [upd_same, List.range_succ, List.map_append, List.map_append]
          congr 3
          show [cv _] = [cv (stepR Mi i r c)]
          unfold stepR
          rw [hmk c]
      · rintro H5 ⟨s5, hD5⟩
        have hD3' := s5 _ _ hD3
        have n2 : D ≠ D2 := ne_of_none hD3 hD2
        refine ⟨bs.map V.ref, hD3', by rw [List.length_map]; exact small1000 (by omega), fun b o e => ?_, bs ++ [D2], by rw [List.map_append]; exact upd_same, fun b hb => ?_, ?_⟩
        · rw [upd_ne (ne_of_none e hD)]
          exact s5 _ _ (s3 _ _ e)
        · rcases List.mem_append.mp hb with hb | hb
          · exact hbD b hb
          · rw [List.mem_singleton.mp hb]
            exact n2.symm
        · rw [take_snoc hr', List.map_append]
          refine Rw.Paired.snoc (paired_right hP3 fun r' a' hm z => ?_) ?_
          · rw [upd_ne (hbD a' hm)]
            exact s5 _ _ z
          · rw [upd_ne n2.symm]
            exact hD5
    · rintro H3 ⟨s3, bs, hD3, hbD, hP3⟩
      rw [hasl, List.take_of_length_le (Nat.le_of_eq hMi.rows)] at hP3
      have hP3 : Paired (fun (r : List Code') a => H3 a = some (.lst (r.map cv))) (stepM n i Mi) bs := hP3
      have hM' := step_sq (k := i) hMi
      have hD' := step_diag (k := i) hMi hDi
      refine ⟨_, rfl, (n : Nat), rfl, (big n hn).1, (big n hn).2, fun D3 hD3n => ?_⟩
      rw [Int.toNat_natCast]
      refine walk_turns (walk_range (lo := 0) (n := n)) (fun c H' => Same H3 H' ∧ H' D3 = some (.lst (((List.range c).map fun a => badC (matAt (stepM n i Mi) a a)).map V.bl))) ⟨same_new hD3n _, upd_same⟩ (fun _ _ _ _ => True.intro) ?_ ?_
      · rintro c z H5 H6 hc ⟨s5, hD5⟩ ⟨rfl, hz⟩
        have hz := zi hz
        subst hz
        obtain ⟨r, ar, hr', har, har', hHr, hrl, hmr⟩ := Grid.row (H := H3) (g := D) hP3 hM' hc
        obtain ⟨e, he⟩ := hD' c hc
        have hcell := row_cell hrl hc
        rw [← hmr c, he] at hcell
        have lt : (((List.range c).map fun a => badC (matAt (stepM n i Mi) a a)).map V.bl).length < sizeLine := by
          rw [List.length_map, List.length_map, List.length_range]
          exact small1000 (by omega)
        refine ⟨rfl, _, rfl, _, rfl, D, _, _, _, rfl, rfl, SqL.of (s5 _ _ hD3), atI_nat har', _, rfl, ar, _, _, _, rfl, rfl, SqL.of (s5 _ _ hHr), atI_nat hcell, e, 1, rfl, rfl, _, hD5, lt, fun b o e => ?_, ?_⟩
        · rw [upd_ne (ne_of_none e hD3n)]
          exact s5 _ _ e
        · rw [upd_same, List.range_succ, List.map_append, List.map_append, List.map_cons, List.map_nil, List.map_cons, List.map_nil, he]
          rfl
      · rintro H5 ⟨s5, hD5⟩
        refine ⟨D3, _, rfl, SqL.of hD5, _, rfl, ?_⟩
        have s15 : Same H H5 := s1.trans (s3.trans s5)
        have en : ((List.range n).map fun a => badC (matAt (stepM n i Mi) a a)).any id = negD n (stepM n i Mi) := by
          unfold negD
          rw [List.any_map]
          rfl
        rw [en]
        unfold shutF at hF
        refine ite2 (fun c => ?_) (fun c => ?_)
        · rw [if_pos c] at hF
          exact q .non H5 s15 (.inl ⟨hF.symm, rfl⟩)
        · rw [if_neg c] at hF
          exact ⟨D, stepM n i Mi, _, rfl, s15, ⟨bs, s5 _ _ hD3, Rw.Paired.imp hP3 fun r a _ z => s5 _ _ z⟩, hM', hD', hF⟩
  · rintro σ' H1 ⟨gi, Mi, way, rfl, s1, hGi, hMi, hDi, hF⟩
    rw [List.drop_eq_nil_of_le (Nat.le_of_eq List.length_range)] at hF
    exact ⟨_, rfl, q _ H1 s1 (.inr ⟨gi, Mi, hF.symm, rfl, hGi, hMi⟩)⟩
end
end Rw
set_option Elab.async false
set_option linter.all false
set_option maxRecDepth 100000
set_option maxHeartbeats 8000000
namespace Rw
open PySem L2
abbrev sReplaced : Stmt := top 35
theorem gridM_sq {ns : List Str} {m : List (Pr × Bd)} : Sq (gridM ns m) (ns.length + 1) :=
  ⟨by unfold gridM; rw [List.length_map, List.length_cons], fun r hr => by
    unfold gridM at hr
    obtain ⟨a, _, rfl⟩ := List.mem_map.mp hr
    rw [List.length_map, List.length_cons]⟩
theorem gridM_at {ns : List Str} {m : List (Pr × Bd)} {i j : Nat} {a b : Str} (ha : (spots ns)[i]? = some a) (hb : (spots ns)[j]? = some b) : matAt (gridM ns m) i j = if a = b then some 1 else codeM m a b := by
  unfold matAt gridM
  rw [List.getElem?_map, ha, Option.map_some, Option.getD_some, List.getElem?_map, hb, Option.map_some, Option.getD_some]
theorem gridM_diag {ns : List Str} {m : List (Pr × Bd)} : Diag (ns.length + 1) (gridM ns m) := fun i hi => by
  have z : i < (spots ns).length := by rw [List.length_cons]; exact hi
  rw [gridM_at (List.getElem?_eq_getElem z) (List.getElem?_eq_getElem z), if_pos rfl]
  exact ⟨1, rfl⟩
def subM (M : Mat) (ps : List Nat) : Mat := ps.map fun i => ps.map fun j => matAt M i j
theorem subM_sq {M : Mat} {ps : List Nat} : Sq (subM M ps) ps.length :=
  ⟨by unfold subM; rw [List.length_map], fun r hr => by
    unfold subM at hr
    obtain ⟨a, _, rfl⟩ := List.mem_map.mp hr
    rw [List.length_map]⟩
section
variable {P : Program} {w : World} {K : PySem.W.Frag} {mg : Str → Option Value} {base : Heap}
def spClosed (K : PySem.W.Frag) (C : Addr) : Sp := fun vs H Q _ => ∃ (p : Addr) (ns : List Str) (m : List (Pr × Bd)), vs = [.ref p] ∧ Tab K C H p ns m ∧
  ∀ (v : V) (H' : Hp), Same H H' → ((shutM (ns.length + 1) (gridM ns m) = none ∧ v = .non) ∨ ∃ g' M', shutM (ns.length + 1) (gridM ns m) = some M' ∧ v = .ref g' ∧ Grid H' g' M' ∧ Sq M' (ns.length + 1)) → Q v H'
theorem scClosed : FnScope ["table"] ["table"] (defScope sClosedGrid) := ⟨rfl, rfl, rfl, by decide +kernel, rfl, by decide +kernel, by decide +kernel⟩
theorem ok_closed_grid {f fs fg C : Addr} {fd fds fdg : FuncData} (F : Fun K "closed_grid" "closed_grid" sClosedGrid f fd) (GS : FnOk P w K mg base CX0 2 fs fds ["grid"] spShut) (GG : FnOk P w K mg base CX0 2 fg fdg ["table"] (spGridOf K C)) (bS : Binds K fds ["grid"] []) (bG : Binds K fdg ["table"] [])
    (kS : PySem.W.keepIn K (.ref fs) = true) (kG : PySem.W.keepIn K (.ref fg) = true) (mS : mg "shut" = some (.ref fs)) (mG : mg "grid_of" = some (.ref fg)) : FnOk P w K mg base CX0 3 f fd ["table"] (spClosed K C) := by
  refine F.ok scClosed (fun vs H Q E h => ?_) (fun cdv A outer s H vs Q E hr h => ?_)
  · obtain ⟨p, ns, m, rfl, _⟩ := h
    rfl
  obtain ⟨p, ns, m, rfl, hT, q⟩ := h
  refine ⟨_, pss_one (ps_ret (pe_call GS hr rfl mS kS bS .nil pass0 (pa_cons (pe_call GG hr rfl mG kG bG .nil pass0 (pa_cons (pv 0) pa_nil)) pa_nil))), ?_⟩
  refine ⟨_, rfl, p, ns, m, rfl, hT, fun g H1 s1 hg hG => ⟨g, _, _, rfl, hG, gridM_sq, by have := hT.1.few; omega, gridM_diag, fun v H2 s2 h => q v H2 (s1.trans s2) h⟩⟩
/-- a table about other names, by the places whose spots they take over -/
def spReplaced (K : PySem.W.Frag) (C : Addr) : Sp := fun vs H Q _ => ∃ (p l a : Addr) (ns ms : List Str) (m : List (Pr × Bd)) (ps : List Nat), vs = [.ref p, .ref l, .ref a] ∧ Tab K C H p ns m ∧ H l = some (.lst (ms.map V.str)) ∧ H a = some (.lst (ps.map fun i => V.int (i : Nat))) ∧ ps.length = ms.length ∧ (∀ i ∈ ps, i ≤ ns.length) ∧
  (spots ms).Nodup ∧ (∀ x ∈ ms, nameB x = true ∧ x.length ≤ 1000) ∧ (∀ x ∈ ms, PyData.strOk x = true) ∧ ms.length ≤ 20 ∧
  ∀ (v : V) (H' : Hp), Same H H' → ((shutM (ns.length + 1) (gridM ns m) = none ∧ v = .non) ∨ ∃ t M', shutM (ns.length + 1) (gridM ns m) = some M' ∧ v = .ref t ∧ Tab K C H' t ms (boundM ms (subM M' (0 :: ps)))) → Q v H'
theorem scReplaced : FnScope ["table", "names", "places", "grid", "i", "j"] ["table", "names", "places"] (defScope sReplaced) := ⟨rfl, rfl, rfl, by decide +kernel, rfl, by decide +kernel, by decide +kernel⟩
theorem ok_replaced {f fc ft C : Addr} {fd fdc fdt : FuncData} (F : Fun K "replaced" "replaced" sReplaced f fd) (GC : FnOk P w K mg base CX0 3 fc fdc ["table"] (spClosed K C)) (GT : FnOk P w K mg base CX0 6 ft fdt ["names", "grid"] (spTableOf K C)) (bC : Binds K fdc ["table"] []) (bT : Binds K fdt ["names", "grid"] [])
    (kC : PySem.W.keepIn K (.ref fc) = true) (kT : PySem.W.keepIn K (.ref ft) = true) (mC : mg "closed_grid" = some (.ref fc)) (mT : mg "table_of" = some (.ref ft)) : FnOk P w K mg base CX0 7 f fd ["table", "names", "places"] (spReplaced K C) := by
  refine F.ok scReplaced (fun vs H Q E h => ?_) (fun cdv A outer s H vs Q E hr h => ?_)
  · obtain ⟨p, l, a, ns, ms, m, ps, rfl, _⟩ := h
    rfl
  obtain ⟨p, l, a, ns, ms, m, ps, rfl, hT, hl, ha, hlen, hps, hnd, hgood, hsok, few, q⟩ := h
  refine ⟨_, pss_cons (ps_set (i := 3) scReplaced.nd rfl (Or.inr rfl) (pe_call GC (hr.mono (by decide)) rfl mC kC bC .nil pass0 (pa_cons (pv 0) pa_nil)))
    (pss_cons (ps_if (pt_cmpR op_isN (pv 3) pe_non (nomark _)) (pss_one (ps_ret pe_non)) pss_nil)
    (pss_cons (ps_set (i := 2) scReplaced.nd rfl (Or.inr rfl) (pe_op op_cat (pe_lst (pa_cons pe_int pa_nil)) (pv 2)))
    (pss_one (ps_ret (pe_call GT hr rfl mT kT bT .nil pass0 (pa_cons (pv 1) (pa_cons (pe_lc (own := [("i", 4)]) (g := gName 4) (te := tLc (iList K (tVar 2)) (gName 5) tYes (tOp (rIxL K) (tOp (rIxL K) (tVar 3) (tVar 4)) (tVar 5)) [5])
        rfl scReplaced.nd (pi_list (pv 2)) (blkOk_by (N := ["table", "names", "places", "grid", "i", "j"]) (sc := defScope sReplaced) (by decide +kernel)) (fun _ _ _ _ _ => pg_name (i := 4) scReplaced.nd rfl (Or.inr rfl)) (fun _ _ _ _ _ => pts_nil)
        (fun _ _ _ _ _ => pe_lc (own := [("j", 5)]) (g := gName 5) rfl scReplaced.nd (pi_list (pv 2)) (blkOk_by (N := ["table", "names", "places", "grid", "i", "j"]) (by rfl)) (fun _ _ _ _ _ => pg_name (i := 5) scReplaced.nd rfl (Or.inl rfl)) (fun _ _ _ _ _ => pts_nil)
          (fun _ _ _ _ _ => pe_ix ix_list (pe_ix ix_list (pv 3) (pv 4) (fun _ _ => rfl)) (pv 5) (fun _ _ => rfl)))) pa_nil))))))), ?_⟩
  refine ⟨_, rfl, p, ns, m, rfl, hT, fun v H1 s1 h => ?_⟩
  rcases h with ⟨h0, rfl⟩ | ⟨g, M', h1, rfl, hG, hM⟩
  · exact ⟨_, rfl, rfl, true, rfl, (if_pos rfl).mpr (q .non H1 s1 (.inl ⟨h0, rfl⟩))⟩
  refine ⟨_, rfl, rfl, false, rfl, (if_neg Bool.false_ne_true).mpr ?_⟩
  have ha1 := s1 _ _ ha
  refine ⟨(by show 1 ≤ sizeLine; decide), fun p1 hp1 => ⟨_, rfl, p1, a, _, _, rfl, rfl, upd_same, (by rw [upd_ne (ne_of_none ha1 hp1)]; exact ha1), ?_, fun pl hpl => ?_⟩⟩
  · rw [List.length_map, hlen]
    exact Nat.le_of_lt (small1000 (show 1 + ms.length ≤ 1000 by omega))
  have s2 : Same H1 (upd (upd H1 p1 (.lst [.int 0])) pl (.lst ([.int 0] ++ ps.map fun i => V.int (i : Nat)))) := (same_new hp1 _).trans (same_new hpl _)
  have hpl2 : (upd (upd H1 p1 (.lst [.int 0])) pl (.lst ([.int 0] ++ ps.map fun i => V.int (i : Nat)))) pl = some (.lst ((0 :: ps).map fun i => V.int (i : Nat))) := upd_same
  generalize upd (upd H1 p1 (.lst [.int 0])) pl (.lst ([.int 0] ++ ps.map fun i => V.int (i : Nat))) = H2 at s2 hpl2
  have hG2 := hG.same s2
  obtain ⟨as, hg, hP⟩ := hG2
  have hb : ∀ i ∈ 0 :: ps, i < ns.length + 1 := fun i hi => by
    rcases List.mem_cons.mp hi with rfl | hi
    · omega
    · have := hps i hi
      omega
  have hql : ((0 :: ps).map fun i => V.int ((i : Nat) : Int)).length = ms.length + 1 := by rw [List.length_map, List.length_cons, hlen]
  have hqL : (0 :: ps).length = ms.length + 1 := by rw [List.length_cons, hlen]
  refine ⟨_, rfl, _, rfl, pl, rfl, ⟨_, SqL.of hpl2⟩, fun D hD => ?_⟩
  refine walk_turns (walk_list (K := K) (a := pl) (xs := (0 :: ps).map fun i => V.int (i : Nat))) (fun k H' => Same H2 H' ∧ ∃ bs : List Addr, H' D = some (.lst (bs.map V.ref)) ∧ (∀ b ∈ bs, b ≠ D) ∧ Paired (fun (r : List Code') a => H' a = some (.lst (r.map cv))) (((0 :: ps).take k).map fun i => (0 :: ps).map fun j => matAt M' i j) bs)
    ⟨same_new hD _, [], upd_same, (fun _ h => nomatch h), .nil⟩ (fun k H' _ h => h.1.seq (SqL.of hpl2)) ?_ ?_
  · rintro k x H3 H4 hk ⟨s3, bs, hD3, hbD, hP3⟩ ⟨rfl, hx⟩
    obtain ⟨i, hi, rfl⟩ := at_map hx
    have hin := hb i (List.mem_of_getElem? hi)
    obtain ⟨r, ar, hr', har, har', hHr, hrl, hmr⟩ := Grid.row (H := H2) (g := g) hP hM hin
    have hbl : bs.length ≤ 21 := by
      have z := Paired.length hP3
      rw [List.length_map, List.length_take, hqL] at z
      omega
    refine ⟨rfl, _, rfl, pl, rfl, ⟨_, s3.seq (SqL.of hpl2)⟩, fun D2 hD2 => ?_⟩
    refine walk_turns (walk_list (K := K) (a := pl) (xs := (0 :: ps).map fun i => V.int (i : Nat))) (fun c H' => Same H4 H' ∧ H' D2 = some (.lst ((((0 :: ps).take c).map fun j => matAt M' i j).map cv))) ⟨same_new hD2 _, upd_same⟩ (fun c H' _ h => (s3.trans h.1).seq (SqL.of hpl2)) ?_ ?_
    · rintro c y H5 H6 hc ⟨s5, hD5⟩ ⟨rfl, hy⟩
      obtain ⟨j, hj, rfl⟩ := at_map hy
      have hjn := hb j (List.mem_of_getElem? hj)
      have s6 := s3.trans s5
      have lt : ((((0 :: ps).take c).map fun j => matAt M' i j).map cv).length < sizeLine := by
        rw [List.length_map, List.length_map, List.length_take, hqL]
        exact small1000 (by omega)
      refine ⟨rfl, _, rfl, _, rfl, g, _, _, _, rfl, rfl, SqL.of (s6 _ _ hg), atI_nat har', _, rfl, ar, _, _, _, rfl, rfl, SqL.of (s6 _ _ hHr), atI_nat (row_cell hrl hjn), _, hD5, lt, fun b o e => ?_, ?_⟩
      · rw [upd_ne (ne_of_none e hD2)]
        exact s5 _ _ e
      · rw [upd_same, take_snoc hj, List.map_append, List.map_append]
        congr 3
        show [cv _] = [cv (matAt M' i j)]
        rw [hmr j]
    · rintro H5 ⟨s5, hD5⟩
      rw [hql, List.take_of_length_le (Nat.le_of_eq hqL)] at hD5
      have hD3' := s5 _ _ hD3
      have n2 : D ≠ D2 := ne_of_none hD3 hD2
      refine ⟨bs.map V.ref, hD3', by rw [List.length_map]; exact small1000 (by omega), fun b o e => ?_, bs ++ [D2], by rw [List.map_append]; exact upd_same, fun b hb' => ?_, ?_⟩
      · rw [upd_ne (ne_of_none e hD)]
        exact s5 _ _ (s3 _ _ e)
      · rcases List.mem_append.mp hb' with hb' | hb'
        · exact hbD b hb'
        · rw [List.mem_singleton.mp hb']
          exact n2.symm
      · rw [take_snoc hi, List.map_append]
        refine Rw.Paired.snoc (paired_right hP3 fun r' a' hm z => ?_) ?_
        · rw [upd_ne (hbD a' hm)]
          exact s5 _ _ z
        · rw [upd_ne n2.symm]
          exact hD5
  · rintro H3 ⟨s3, bs, hD3, hbD, hP3⟩
    rw [hql, List.take_of_length_le (Nat.le_of_eq hqL)] at hP3
    have s13 : Same H H3 := s1.trans (s2.trans s3)
    refine ⟨l, D, ms, subM M' (0 :: ps), rfl, s13 _ _ hl, ⟨bs, hD3, hP3⟩, hqL ▸ subM_sq, hnd, hgood, hsok, few, fun t H4 s4 ht T => ?_⟩
    exact q (.ref t) H4 (s13.trans s4) (.inr ⟨t, M', h1, rfl, T⟩)
end
end Rw
set_option Elab.async false
set_option linter.all false
set_option maxRecDepth 100000
set_option maxHeartbeats 8000000
namespace Rw
open PySem L2
abbrev sBNInit : Stmt := inClass (top 17) 0
abbrev sCheck : Stmt := top 34
section
variable {P : Program} {w : World} {K : PySem.W.Frag} {mg : Str → Option Value} {base : Heap}
/-! ### the error of bad names -/
def spBNInit (CE : Addr) : Sp := fun vs H Q _ => ∃ (a : Addr) (v : V), vs = [.ref a, v] ∧ H a = some (exo a CE none) ∧ ∀ dx, H dx = none → dx ≠ a → Q .non (upd (upd H dx (exd dx [("index", v)])) a (exo a CE (some dx)))
theorem scBNInit : FnScope ["self", "index"] ["self", "index"] (defScope sBNInit) := ⟨rfl, rfl, rfl, by decide +kernel, rfl, by decide +kernel, by decide +kernel⟩
theorem ok_bninit {f CE : Addr} {fd : FuncData} (F : Fun K "__init__" "BadNames.__init__" sBNInit f fd) (T : OexC K CE) (hno : PySem.W.findIn K (.ref CE) "index" = some none) : FnOk P w K mg base CX0 1 f fd ["self", "index"] (spBNInit CE) := by
  refine F.ok scBNInit (fun vs H Q E h => ?_) (fun cdv A outer s H vs Q E hr h => ?_)
  · obtain ⟨a, v, rfl, _⟩ := h
    rfl
  obtain ⟨a, v, rfl, ha, q⟩ := h
  refine ⟨_, pss_one (ps_ost (pv 0) (pv 1)), ?_⟩
  exact ⟨_, rfl, _, rfl, a, CE, rfl, T, hno, .inl ⟨ha, fun dx hdx hne => q dx hdx hne⟩⟩
/-- nothing, or the error with its place -/
def spCheck (K : PySem.W.Frag) (C CE : Addr) : Sp := fun vs H Q E => ∃ (p : Addr) (v r : V) (ns : List Str) (m : List (Pr × Bd)), vs = [.ref p, v] ∧ Tab K C H p ns m ∧ Chose K H ns v r ∧ (r = .non → ∀ H', Same H H' → Q .non H') ∧
  (r ≠ .non → ∀ d H', Same H H' → H d = none → H' d = some (.xd [("index", r)]) → E (.ref CE) (some d) H')
structure ErrT (K : PySem.W.Frag) (mg : Str → Option Value) (CE fI : Addr) : Prop where
  T : OexC K CE
  noN : PySem.W.findIn K (.ref CE) "index" = some none
  iC : PySem.W.findIn K (.ref CE) "__init__" = some (some (.ref fI))
  tI : PySem.W.typeIn K (.ref fI) = some (.type "function")
  gC : mg "BadNames" = some (.ref CE)
theorem Chose.same {H H' : Hp} {ns : List Str} {v r : V} (h : Chose K H ns v r) (s : Same H H') : Chose K H' ns v r := by
  cases h with
  | none _ n h hn => exact .none _ n (h.same s) hn
  | good a cs h nd sub => exact .good a cs (Seq.same h s) nd sub
  | odd a cs o more h nd sub ho => exact .odd a cs o more (Seq.same h s) nd sub (OddC.same ho s)
theorem scCheck : FnScope ["table", "names", "bad"] ["table", "names"] (defScope sCheck) := ⟨rfl, rfl, rfl, by decide +kernel, rfl, by decide +kernel, by decide +kernel⟩
theorem ok_check {f fb fn fI C CE : Addr} {fd fdb fdn fdI : FuncData} (F : Fun K "check_choice" "check_choice" sCheck f fd) (T : TxtT K mg C) (ER : ErrT K mg CE fI) (GB : FnOk P w K mg base CX0 2 fb fdb ["things", "names"] (spBadChoiceAt K)) (GN : FnOk P w K mg base CX0 1 fn fdn ["self"] (spTNames K C))
    (GI : FnOk P w K mg base CX0 1 fI fdI ["self", "index"] (spBNInit CE)) (bB : Binds K fdb ["things", "names"] []) (bN : Binds K fdn ["self"] []) (bI : Binds K fdI ["self", "index"] []) (hN : Meth K C "names" fn) (kB : PySem.W.keepIn K (.ref fb) = true) (mB : mg "bad_choice_at" = some (.ref fb)) :
    FnOk P w K mg base (L2.CX P w) 4 f fd ["table", "names"] (spCheck K C CE) := by
  refine F.okX scCheck (fun vs H Q E h => ?_) (fun cdv A outer s H vs Q E hr h => ?_)
  · obtain ⟨p, v, r, ns, m, rfl, _⟩ := h
    rfl
  obtain ⟨p, v, r, ns, m, rfl, hT, hC, q0, q1⟩ := h
  refine ⟨_, pss_cons (ps_set (i := 2) scCheck.nd rfl (Or.inl rfl) (pe_call GB (hr.mono (by decide)) rfl mB kB bB .nil pass0 (pa_cons (pv 1) (pa_cons (pe_meth0 (pv 0) T.cl hN GN (hr.mono (by decide)) bN .nil pass0) pa_nil))))
    (pss_one (ps_if (pt_cmpR op_notN (pv 2) pe_non (nomark _)) (pss_one (ps_raise rfl (takes_of rfl rfl rfl rfl) (pmk_oex ER.T ER.iC ER.tI GI (hr.mono (by decide)) bI .nil pass0 rfl ER.gC (pa_cons (pv 2) pa_nil)))) pss_nil)), ?_⟩
  obtain ⟨ok, dx, l, d, hp, hl, hd⟩ := id hT
  refine ⟨_, rfl, _, rfl, p, dx, _, rfl, hp, tf_no (by decide +kernel) (by decide +kernel), p, ns, m, rfl, hT, fun b hb => ?_⟩
  have s1 : Same H (upd H b (.lst (ns.map V.str))) := same_new hb _
  refine ⟨v, r, b, ns, rfl, SqL.of upd_same, (List.nodup_cons.mp ok.nd).2, by have := ok.few; omega, hC.same s1, fun H1 s2 => ?_⟩
  have s12 := s1.trans s2
  by_cases hr0 : r = .non
  · subst hr0
    exact ⟨_, rfl, rfl, false, rfl, (if_neg Bool.false_ne_true).mpr (q0 rfl H1 s12)⟩
  · refine ⟨_, rfl, rfl, true, by rw [decide_eq_false hr0]; rfl, (if_pos rfl).mpr ?_⟩
    refine ⟨_, rfl, (by show 1 ≤ 1000; decide), fun a ha => ?_⟩
    refine ⟨a, r, rfl, upd_same, fun dx' hdx hne => ⟨rfl, dx', [(("index" : Str), r)], upd_same, ?_, ?_, ?_⟩⟩
    · rw [upd_ne hne, upd_same]
    · rw [upd_ne hne] at hdx
      exact hdx
    · have hd1 : H1 dx' = none := by
        rw [upd_ne hne] at hdx
        exact hdx
      refine q1 hr0 dx' _ (fun x o e => ?_) (s12.free hd1) upd_same
      have e1 := s12 _ _ e
      have nd : x ≠ dx' := ne_of_none e1 hd1
      have na : x ≠ a := ne_of_none e1 ha
      rw [upd_ne nd, del_ne na, upd_ne na, upd_ne nd, upd_ne na]
      exact e1
end
end Rw
set_option Elab.async false
set_option linter.all false
set_option maxRecDepth 100000
set_option maxHeartbeats 8000000
namespace Rw
open PySem L2
abbrev sBegun : Stmt := top 32
abbrev sWithout : Stmt := top 33
/-- the places whose spots the names take over when some begin anew -/
def placesB (ns cs : List Str) : List Nat := (List.range ns.length).map fun i => if (ns[i]?.getD ("" : Str)) ∈ cs then 0 else i + 1
/-- what stays of names -/
def keptN (ns cs : List Str) : List Str := ns.filter fun x => decide (x ∉ cs)
def placesW (ns cs : List Str) : List Nat := ((List.range ns.length).filter fun i => decide ((ns[i]?.getD ("" : Str)) ∉ cs)).map fun i => i + 1
/-- a good choice out of a table's names -/
structure Ch (K : PySem.W.Frag) (H : Hp) (ns cs : List Str) (a : Addr) : Prop where
  seq : Seq K H a (cs.map V.str)
  nd : cs.Nodup
  sub : ∀ x ∈ cs, x ∈ ns
theorem Ch.same {K : PySem.W.Frag} {H H' : Hp} {ns cs : List Str} {a : Addr} (h : Ch K H ns cs a) (s : Same H H') : Ch K H' ns cs a := ⟨Seq.same h.seq s, h.nd, h.sub⟩
def Told (K : PySem.W.Frag) (C : Addr) (ns ms : List Str) (m : List (Pr × Bd)) (ps : List Nat) (v : V) (H' : Hp) : Prop :=
  (shutM (ns.length + 1) (gridM ns m) = none ∧ v = .non) ∨ ∃ t M', shutM (ns.length + 1) (gridM ns m) = some M' ∧ v = .ref t ∧ Tab K C H' t ms (boundM ms (subM M' (0 :: ps)))
def spChange (K : PySem.W.Frag) (C CE : Addr) (kept : List Str → List Str → List Str) (places : List Str → List Str → List Nat) : Sp := fun vs H Q E => ∃ (p : Addr) (v : V) (ns : List Str) (m : List (Pr × Bd)), vs = [.ref p, v] ∧ Tab K C H p ns m ∧
  ((∃ a cs, v = .ref a ∧ Ch K H ns cs a ∧ ∀ u H', Same H H' → Told K C ns (kept ns cs) m (places ns cs) u H' → Q u H') ∨
    ∃ r, Chose K H ns v r ∧ r ≠ .non ∧ ∀ d H', Same H H' → H d = none → H' d = some (.xd [("index", r)]) → E (.ref CE) (some d) H')
section
variable {P : Program} {w : World} {K : PySem.W.Frag} {mg : Str → Option Value} {base : Heap}
theorem scBegun : FnScope ["table", "names", "places", "at", "name"] ["table", "names"] (defScope sBegun) := ⟨rfl, rfl, rfl, by decide +kernel, rfl, by decide +kernel, by decide +kernel⟩
theorem ok_begun {f fc fn fr C CE : Addr} {fd fdc fdn fdr : FuncData} (F : Fun K "begun" "begun" sBegun f fd) (T : TxtT K mg C) (GC : FnOk P w K mg base (L2.CX P w) 4 fc fdc ["table", "names"] (spCheck K C CE)) (GN : FnOk P w K mg base CX0 1 fn fdn ["self"] (spTNames K C)) (GR : FnOk P w K mg base CX0 7 fr fdr ["table", "names", "places"] (spReplaced K C))
    (bC : Binds K fdc ["table", "names"] []) (bN : Binds K fdn ["self"] []) (bR : Binds K fdr ["table", "names", "places"] []) (hN : Meth K C "names" fn) (kC : PySem.W.keepIn K (.ref fc) = true) (kR : PySem.W.keepIn K (.ref fr) = true) (mC : mg "check_choice" = some (.ref fc)) (mR : mg "replaced" = some (.ref fr)) (me : mg "enumerate" = none) :
    FnOk P w K mg base (L2.CX P w) 8 f fd ["table", "names"] (spChange K C CE (fun ns _ => ns) placesB) := by
  refine F.okX scBegun (fun vs H Q E h => ?_) (fun cdv A outer s H vs Q E hr h => ?_)
  · obtain ⟨p, v, ns, m, rfl, _⟩ := h
    rfl
  obtain ⟨p, v, ns, m, rfl, hT, h⟩ := h
  refine ⟨_, pss_cons (ps_expr (pe_callS GC (hr.mono (by decide)) rfl mC kC bC (fun σ => passAt (takes_of rfl rfl rfl rfl) σ) (pa_cons (pv 0) (pa_cons (pv 1) pa_nil))))
    (pss_cons (ps_setLc (i := 2) (own := [("at", 3), ("name", 4)]) (g := gTup K 2 (gCons (gName 3) (gCons (gName 4) gNil))) (te := tIf (tTest (tOp (rIn K false) (tVar 4) (tVar 1))) (tC (.int 0)) (tOp (rI0 fun i j => .int (i + j)) (tVar 3) (tC (.int 1)))) rfl scBegun.nd rfl rfl (sw_true rfl rfl rfl rfl)
        (pi_enum rfl me (pa_cons (pe_meth0 (pv 0) T.cl hN GN (hr.mono (by decide)) bN .nil pass0) pa_nil)) (blkOk_by (N := ["table", "names", "places", "at", "name"]) (sc := defScope sBegun) (by decide +kernel))
        (fun _ _ _ _ _ => pg_tup rfl (pgs_cons (pg_name (i := 3) scBegun.nd rfl (Or.inl rfl)) (pgs_cons (pg_name (i := 4) scBegun.nd rfl (Or.inl rfl)) pgs_nil))) (fun _ _ _ _ _ => pts_nil)
        (fun _ _ _ _ _ => pe_ifExp (pt_cmpR op_in_seq (pv 4) (pv 1) rfl) pe_int (pe_op op_add (pv 3) pe_int)))
    (pss_one (ps_ret (pe_call GR (hr.mono (by decide)) rfl mR kR bR .nil pass0 (pa_cons (pv 0) (pa_cons (pe_meth0 (pv 0) T.cl hN GN (hr.mono (by decide)) bN .nil pass0) (pa_cons (pv 2) pa_nil))))))), ?_⟩
  have ok := hT.1
  have few := ok.few
  obtain ⟨_, dx, l, d, hp, hl, hd⟩ := id hT
  have hnm : (tf l d).lookup ("names" : Str) = none := tf_no (by decide +kernel) (by decide +kernel)
  rcases h with ⟨a, cs, rfl, hCh, q⟩ | ⟨r, hC, hr0, q⟩
  · refine ⟨_, rfl, _, rfl, p, _, .non, ns, m, rfl, hT, .good a cs hCh.seq hCh.nd hCh.sub, fun _ H1 s1 => ?_, fun z => absurd rfl z⟩
    refine ⟨_, rfl, p, dx, _, rfl, s1 _ _ hp, hnm, p, ns, m, rfl, hT.same s1, fun n1 hn1 => ?_⟩
    have s2 : Same H1 (upd H1 n1 (.lst (ns.map V.str))) := same_new hn1 _
    have hn2 : (upd H1 n1 (.lst (ns.map V.str))) n1 = some (.lst (ns.map V.str)) := upd_same
    generalize upd H1 n1 (.lst (ns.map V.str)) = H2 at s2 hn2
    have nl : (ns.map V.str).length = ns.length := List.length_map _
    have hCh2 := hCh.same (s1.trans s2)
    refine ⟨n1, _, rfl, SqL.of hn2, fun D hD => ?_⟩
    refine walk_turns (walk_enum (K := K) (a := n1) (xs := ns.map V.str)) (fun i H' => Same H2 H' ∧ H' D = some (.lst (((List.range i).map fun i => if (ns[i]?.getD ("" : Str)) ∈ cs then 0 else i + 1).map fun i => V.int (i : Nat)))) ⟨same_new hD _, upd_same⟩ (fun i H' _ h => h.1.seq (SqL.of hn2)) ?_ ?_
    · rintro i x H3 H4 hi ⟨s3, hD3⟩ ⟨T1, y1, y2, rfl, hT1, rfl, ey, ez⟩
      cases ey
      obtain ⟨c, hc, rfl⟩ := at_map ez
      have hg : ns[i]?.getD ("" : Str) = c := by rw [hc]; rfl
      have lt : (((List.range i).map fun i => if (ns[i]?.getD ("" : Str)) ∈ cs then 0 else i + 1).map fun i => V.int ((i : Nat) : Int)).length < sizeLine := by
        rw [List.length_map, List.length_map, List.length_range]
        exact small1000 (by omega)
      have hDT : (upd H3 T1 (.tup [.int (i : Nat), .str c])) D = some (.lst (((List.range i).map fun i => if (ns[i]?.getD ("" : Str)) ∈ cs then 0 else i + 1).map fun i => V.int (i : Nat))) := by rw [upd_ne (ne_of_none hD3 hT1)]; exact hD3
      have s4 : Same H2 (upd H3 T1 (.tup [.int (i : Nat), .str c])) := s3.trans (same_new hT1 _)
      have hseq := (hCh2.same s4).seq
      have fin : ∀ k : Nat, (if c ∈ cs then 0 else i + 1) = k → ∃ acc, (upd H3 T1 (.tup [.int (i : Nat), .str c])) D = some (.lst acc) ∧ acc.length < sizeLine ∧ Same H2 (upd (upd H3 T1 (.tup [.int (i : Nat), .str c])) D (.lst (acc ++ [V.int (k : Nat)]))) ∧
          (upd (upd H3 T1 (.tup [.int (i : Nat), .str c])) D (.lst (acc ++ [V.int (k : Nat)]))) D = some (.lst (((List.range (i + 1)).map fun i => if (ns[i]?.getD ("" : Str)) ∈ cs then 0 else i + 1).map fun i => V.int (i : Nat))) := fun k hk => by
        refine ⟨_, hDT, lt, fun b o e => ?_, ?_⟩
        · rw [upd_ne (ne_of_none e hD)]
          exact s4 _ _ e
        · rw [upd_same, List.range_succ, List.map_append, List.map_append]
          congr 3
          show [V.int ((k : Nat) : Int)] = [V.int (((if (ns[i]?.getD ("" : Str)) ∈ cs then 0 else i + 1 : Nat)) : Int)]
          rw [hg, hk]
      refine ⟨T1, _, rfl, SqT.of upd_same, rfl, _, _, rfl, _, _, rfl, rfl, rfl, ?_⟩
      refine ⟨_, rfl, _, rfl, a, _, rfl, hseq, rfl, flat_strs, _, rfl, ?_⟩
      rw [if_neg Bool.false_ne_true, inV_str]
      refine ite2 (fun e => ?_) (fun e => ?_)
      · have z := fin 0 (if_pos (of_decide_eq_true e))
        exact z
      · have z := fin (i + 1) (if_neg fun w => e (decide_eq_true w))
        exact ⟨_, rfl, _, _, rfl, rfl, z⟩
    · rintro H3 ⟨s3, hD3⟩
      rw [nl] at hD3
      have s13 : Same H H3 := s1.trans (s2.trans s3)
      refine ⟨_, rfl, _, rfl, p, dx, _, rfl, s13 _ _ hp, hnm, p, ns, m, rfl, hT.same s13, fun n3 hn3 => ?_⟩
      have s4 : Same H3 (upd H3 n3 (.lst (ns.map V.str))) := same_new hn3 _
      refine ⟨_, rfl, p, n3, D, ns, ns, m, placesB ns cs, rfl, hT.same (s13.trans s4), upd_same, s4 _ _ hD3, by unfold placesB; rw [List.length_map, List.length_range], fun i hi => ?_, ok.nd, ok.good, ok.sok, few, fun u H4 s5 h => q u H4 ((s13.trans s4).trans s5) h⟩
      unfold placesB at hi
      obtain ⟨j, hj, rfl⟩ := List.mem_map.mp hi
      have := List.mem_range.mp hj
      split <;> omega
  · exact ⟨_, rfl, _, rfl, p, v, r, ns, m, rfl, hT, hC, fun z => absurd z hr0, fun _ d H' s hd hx => q d H' s hd hx⟩
end
end Rw
set_option Elab.async false
set_option linter.all false
set_option maxRecDepth 100000
set_option maxHeartbeats 8000000
namespace Rw
open PySem L2
section
variable {P : Program} {w : World} {K : PySem.W.Frag} {mg : Str → Option Value} {base : Heap}
theorem scWithout : FnScope ["table", "names", "kept", "places", "name", "at"] ["table", "names"] (defScope sWithout) := ⟨rfl, rfl, rfl, by decide +kernel, rfl, by decide +kernel, by decide +kernel⟩
theorem placesW_len {ns cs : List Str} : (placesW ns cs).length = (keptN ns cs).length := by
  unfold placesW keptN
  rw [List.length_map]
  have key : ∀ k, k ≤ ns.length → ((List.range k).filter fun i => decide ((ns[i]?.getD ("" : Str)) ∉ cs)).length = ((ns.take k).filter fun x => decide (x ∉ cs)).length := by
    intro k
    induction k with
    | zero => intro _; rfl
    | succ k ih =>
      intro hk
      have e : ns[k]? = some ns[k] := List.getElem?_eq_getElem (by omega)
      rw [List.range_succ, List.filter_append, List.length_append, ih (by omega), take_snoc e, List.filter_append, List.length_append]
      congr 1
      have g : ns[k]?.getD ("" : Str) = ns[k] := by rw [e]; rfl
      show (List.filter (fun i => decide ((ns[i]?.getD ("" : Str)) ∉ cs)) [k]).length = (List.filter (fun x => decide (x ∉ cs)) [ns[k]]).length
      rw [List.filter_cons, List.filter_cons, g]
      split <;> rfl
  have z := key ns.length (Nat.le_refl _)
  rw [List.take_length] at z
  exact z
theorem ok_without {f fc fn fr C CE : Addr} {fd fdc fdn fdr : FuncData} (F : Fun K "without" "without" sWithout f fd) (T : TxtT K mg C) (GC : FnOk P w K mg base (L2.CX P w) 4 fc fdc ["table", "names"] (spCheck K C CE)) (GN : FnOk P w K mg base CX0 1 fn fdn ["self"] (spTNames K C)) (GR : FnOk P w K mg base CX0 7 fr fdr ["table", "names", "places"] (spReplaced K C))
    (bC : Binds K fdc ["table", "names"] []) (bN : Binds K fdn ["self"] []) (bR : Binds K fdr ["table", "names", "places"] []) (hN : Meth K C "names" fn) (kC : PySem.W.keepIn K (.ref fc) = true) (kR : PySem.W.keepIn K (.ref fr) = true) (mC : mg "check_choice" = some (.ref fc)) (mR : mg "replaced" = some (.ref fr)) (me : mg "enumerate" = none) :
    FnOk P w K mg base (L2.CX P w) 8 f fd ["table", "names"] (spChange K C CE keptN placesW) := by
  refine F.okX scWithout (fun vs H Q E h => ?_) (fun cdv A outer s H vs Q E hr h => ?_)
  · obtain ⟨p, v, ns, m, rfl, _⟩ := h
    rfl
  obtain ⟨p, v, ns, m, rfl, hT, h⟩ := h
  refine ⟨_, pss_cons (ps_expr (pe_callS GC (hr.mono (by decide)) rfl mC kC bC (fun σ => passAt (takes_of rfl rfl rfl rfl) σ) (pa_cons (pv 0) (pa_cons (pv 1) pa_nil))))
    (pss_cons (ps_setLc (i := 2) (own := [("name", 4)]) (g := gName 4) (tt := tTest (tOp (rIn K true) (tVar 4) (tVar 1))) rfl scWithout.nd rfl rfl (sw_true rfl rfl rfl rfl)
        (pi_list (pe_meth0 (pv 0) T.cl hN GN (hr.mono (by decide)) bN .nil pass0)) (blkOk_by (N := ["table", "names", "kept", "places", "name", "at"]) (sc := defScope sWithout) (by decide +kernel))
        (fun _ _ _ _ _ => pg_name (i := 4) scWithout.nd rfl (Or.inl rfl)) (fun _ _ _ _ _ => pts_one (pt_cmpR op_notIn_seq (pv 4) (pv 1) rfl)) (fun _ _ _ _ _ => pv 4))
    (pss_cons (ps_setLc (i := 3) (own := [("at", 5), ("name", 4)]) (g := gTup K 2 (gCons (gName 5) (gCons (gName 4) gNil))) (tt := tTest (tOp (rIn K true) (tVar 4) (tVar 1))) (te := tOp (rI0 fun i j => .int (i + j)) (tVar 5) (tC (.int 1))) rfl scWithout.nd rfl rfl (sw_true rfl rfl rfl rfl)
        (pi_enum rfl me (pa_cons (pe_meth0 (pv 0) T.cl hN GN (hr.mono (by decide)) bN .nil pass0) pa_nil)) (blkOk_by (N := ["table", "names", "kept", "places", "name", "at"]) (sc := defScope sWithout) (by decide +kernel))
        (fun _ _ _ _ _ => pg_tup rfl (pgs_cons (pg_name (i := 5) scWithout.nd rfl (Or.inl rfl)) (pgs_cons (pg_name (i := 4) scWithout.nd rfl (Or.inl rfl)) pgs_nil))) (fun _ _ _ _ _ => pts_one (pt_cmpR op_notIn_seq (pv 4) (pv 1) rfl))
        (fun _ _ _ _ _ => pe_op op_add (pv 5) pe_int))
    (pss_one (ps_ret (pe_call GR (hr.mono (by decide)) rfl mR kR bR .nil pass0 (pa_cons (pv 0) (pa_cons (pv 2) (pa_cons (pv 3) pa_nil)))))))), ?_⟩
  have ok := hT.1
  have few := ok.few
  obtain ⟨_, dx, l, d, hp, hl, hd⟩ := id hT
  have hnm : (tf l d).lookup ("names" : Str) = none := tf_no (by decide +kernel) (by decide +kernel)
  rcases h with ⟨a, cs, rfl, hCh, q⟩ | ⟨r, hC, hr0, q⟩
  · refine ⟨_, rfl, _, rfl, p, _, .non, ns, m, rfl, hT, .good a cs hCh.seq hCh.nd hCh.sub, fun _ H1 s1 => ?_, fun z => absurd rfl z⟩
    refine ⟨_, rfl, p, dx, _, rfl, s1 _ _ hp, hnm, p, ns, m, rfl, hT.same s1, fun n1 hn1 => ?_⟩
    have s2 : Same H1 (upd H1 n1 (.lst (ns.map V.str))) := same_new hn1 _
    have hn2 : (upd H1 n1 (.lst (ns.map V.str))) n1 = some (.lst (ns.map V.str)) := upd_same
    generalize upd H1 n1 (.lst (ns.map V.str)) = H2 at s2 hn2
    have nl : (ns.map V.str).length = ns.length := List.length_map _
    have hCh2 := hCh.same (s1.trans s2)
    refine ⟨n1, rfl, ⟨_, SqL.of hn2⟩, fun D hD => ?_⟩
    refine walk_turns (walk_list (K := K) (a := n1) (xs := ns.map V.str)) (fun i H' => Same H2 H' ∧ H' D = some (.lst (((ns.take i).filter fun x => decide (x ∉ cs)).map V.str))) ⟨same_new hD _, upd_same⟩ (fun i H' _ h => h.1.seq (SqL.of hn2)) ?_ ?_
    · rintro i x H3 H4 hi ⟨s3, hD3⟩ ⟨rfl, hx⟩
      obtain ⟨c, hc, rfl⟩ := at_map hx
      have hseq := (hCh2.same s3).seq
      have lt : (((ns.take i).filter fun x => decide (x ∉ cs)).map V.str).length < sizeLine := by
        rw [List.length_map]
        have z := List.length_filter_le (fun x => decide (x ∉ cs)) (ns.take i)
        rw [List.length_take] at z
        exact small1000 (by omega)
      refine ⟨rfl, _, rfl, _, rfl, a, _, rfl, hseq, rfl, flat_strs, _, rfl, ?_⟩
      rw [if_pos rfl, inV_str, take_snoc hc, List.filter_append, List.map_append]
      refine ite2 (fun e => ?_) (fun e => ?_)
      · have hcn : c ∉ cs := fun w => by
          rw [decide_eq_true w] at e
          cases e
        refine ⟨_, rfl, _, hD3, lt, fun b o e => ?_, ?_⟩
        · rw [upd_ne (ne_of_none e hD)]
          exact s3 _ _ e
        · rw [upd_same]
          congr 3
          show _ = (List.filter (fun x => decide (x ∉ cs)) [c]).map V.str
          rw [List.filter_cons, if_pos (decide_eq_true hcn)]
          rfl
      · have hcn : c ∈ cs := by
          by_cases w : c ∈ cs
          · exact w
          · exact absurd (by rw [decide_eq_false w]; rfl) e
        refine ⟨s3, ?_⟩
        rw [hD3]
        congr 2
        show _ = _ ++ (List.filter (fun x => decide (x ∉ cs)) [c]).map V.str
        rw [List.filter_cons, if_neg (by rw [decide_eq_false (fun w => w hcn)]; exact Bool.false_ne_true)]
        rw [List.filter_nil, List.map_nil, List.append_nil]
    · rintro H3 ⟨s3, hD3⟩
      rw [nl, List.take_length] at hD3
      have hD3 : H3 D = some (.lst ((keptN ns cs).map V.str)) := hD3
      have s13 : Same H H3 := s1.trans (s2.trans s3)
      refine ⟨_, rfl, p, dx, _, rfl, s13 _ _ hp, hnm, p, ns, m, rfl, hT.same s13, fun n2 hn3 => ?_⟩
      have s4 : Same H3 (upd H3 n2 (.lst (ns.map V.str))) := same_new hn3 _
      have hn4 : (upd H3 n2 (.lst (ns.map V.str))) n2 = some (.lst (ns.map V.str)) := upd_same
      generalize upd H3 n2 (.lst (ns.map V.str)) = H4 at s4 hn4
      have hCh4 := hCh.same (s13.trans s4)
      refine ⟨n2, _, rfl, SqL.of hn4, fun D2 hD2 => ?_⟩
      refine walk_turns (walk_enum (K := K) (a := n2) (xs := ns.map V.str)) (fun i H' => Same H4 H' ∧ H' D2 = some (.lst ((((List.range i).filter fun i => decide ((ns[i]?.getD ("" : Str)) ∉ cs)).map fun i => i + 1).map fun i => V.int (i : Nat)))) ⟨same_new hD2 _, upd_same⟩ (fun i H' _ h => h.1.seq (SqL.of hn4)) ?_ ?_
      · rintro i x H5 H6 hi ⟨s5, hD5⟩ ⟨T1, y1, y2, rfl, hT1, rfl, ey, ez⟩
        cases ey
        obtain ⟨c, hc, rfl⟩ := at_map ez
        have hg : ns[i]?.getD ("" : Str) = c := by rw [hc]; rfl
        have lt : ((((List.range i).filter fun i => decide ((ns[i]?.getD ("" : Str)) ∉ cs)).map fun i => i + 1).map fun i => V.int ((i : Nat) : Int)).length < sizeLine := by
          rw [List.length_map, List.length_map]
          have z := List.length_filter_le (fun i => decide ((ns[i]?.getD ("" : Str)) ∉ cs)) (List.range i)
          rw [List.length_range] at z
          exact small1000 (by omega)
        have hDT : (upd H5 T1 (.tup [.int (i : Nat), .str c])) D2 = some (.lst ((((List.range i).filter fun i => decide ((ns[i]?.getD ("" : Str)) ∉ cs)).map fun i => i + 1).map fun i => V.int (i : Nat))) := by rw [upd_ne (ne_of_none hD5 hT1)]; exact hD5
        have s6 : Same H4 (upd H5 T1 (.tup [.int (i : Nat), .str c])) := s5.trans (same_new hT1 _)
        have hseq := (hCh4.same s6).seq
        refine ⟨T1, _, rfl, SqT.of upd_same, rfl, _, _, rfl, _, _, rfl, rfl, rfl, ?_⟩
        refine ⟨_, rfl, _, rfl, a, _, rfl, hseq, rfl, flat_strs, _, rfl, ?_⟩
        rw [if_pos rfl, inV_str, List.range_succ, List.filter_append, List.map_append, List.map_append]
        refine ite2 (fun e => ?_) (fun e => ?_)
        · have hcn : c ∉ cs := fun w => by
            rw [decide_eq_true w] at e
            cases e
          refine ⟨_, rfl, _, _, rfl, rfl, _, hDT, lt, fun b o e => ?_, ?_⟩
          · rw [upd_ne (ne_of_none e hD2)]
            exact s6 _ _ e
          · rw [upd_same]
            congr 3
            show _ = ((List.filter (fun i => decide ((ns[i]?.getD ("" : Str)) ∉ cs)) [i]).map fun i => i + 1).map fun i => V.int ((i : Nat) : Int)
            rw [List.filter_cons, if_pos (by rw [hg]; exact decide_eq_true hcn)]
            rfl
        · have hcn : c ∈ cs := by
            by_cases w : c ∈ cs
            · exact w
            · exact absurd (by rw [decide_eq_false w]; rfl) e
          refine ⟨s6, ?_⟩
          rw [hDT]
          congr 2
          show _ = _ ++ ((List.filter (fun i => decide ((ns[i]?.getD ("" : Str)) ∉ cs)) [i]).map fun i => i + 1).map fun i => V.int ((i : Nat) : Int)
          rw [List.filter_cons, if_neg (by rw [hg, decide_eq_false (fun w => w hcn)]; exact Bool.false_ne_true)]
          rw [List.filter_nil, List.map_nil, List.map_nil, List.append_nil]
      · rintro H5 ⟨s5, hD5⟩
        rw [nl] at hD5
        have s15 : Same H H5 := s13.trans (s4.trans s5)
        have sub : (keptN ns cs).Sublist ns := List.filter_sublist
        have mem : ∀ x ∈ keptN ns cs, x ∈ ns := fun x hx => sub.subset hx
        refine ⟨_, rfl, _, rfl, _, rfl, p, D, D2, ns, keptN ns cs, m, placesW ns cs, rfl, hT.same s15, s5 _ _ (s4 _ _ hD3), hD5, placesW_len, fun i hi => ?_, ?_, fun x hx => ok.good x (mem x hx), fun x hx => ok.sok x (mem x hx), ?_, fun u H6 s6 h => q u H6 (s15.trans s6) h⟩
        · unfold placesW at hi
          obtain ⟨j, hj, rfl⟩ := List.mem_map.mp hi
          have := List.mem_range.mp (List.mem_filter.mp hj).1
          omega
        · exact ok.nd.sublist (sub.cons₂ _)
        · exact Nat.le_trans sub.length_le few
  · exact ⟨_, rfl, _, rfl, p, v, r, ns, m, rfl, hT, hC, fun z => absurd z hr0, fun _ d H' s hd hx => q d H' s hd hx⟩
end
end Rw
set_option Elab.async false
set_option linter.all false
set_option maxRecDepth 100000
set_option maxHeartbeats 4000000
namespace Rw
open PySem L2
/-! ### sums of codes along ways -/
def leC (x y : Code') : Prop := ∀ b, y = some b → ∃ a, x = some a ∧ a ≤ b
theorem leC_refl (x : Code') : leC x x := fun b h => ⟨b, h, Int.le_refl _⟩
theorem leC_none (x : Code') : leC x none := fun b h => by cases h
theorem leC_trans {x y z : Code'} (h : leC x y) (g : leC y z) : leC x z := fun b e => by
  obtain ⟨a, ha, h1⟩ := g b e
  obtain ⟨c, hc, h2⟩ := h a ha
  exact ⟨c, hc, Int.le_trans h2 h1⟩
theorem leC_anti {x y : Code'} (h : leC x y) (g : leC y x) : x = y := by
  cases x with
  | none =>
    cases y with
    | none => rfl
    | some b =>
      obtain ⟨a, ha, _⟩ := h b rfl
      cases ha
  | some a =>
    obtain ⟨b, hb, h1⟩ := g a rfl
    obtain ⟨a', ha, h2⟩ := h b hb
    cases ha
    rw [hb]
    congr 1
    omega
theorem tight_l (x y : Code') : leC (tightC x y) x := fun b e => by
  subst e
  cases y with
  | none => exact ⟨b, rfl, Int.le_refl _⟩
  | some c =>
    show ∃ a, (if b < c then some b else some c) = some a ∧ a ≤ b
    split
    · exact ⟨b, rfl, Int.le_refl _⟩
    · exact ⟨c, rfl, by omega⟩
theorem tight_r (x y : Code') : leC (tightC x y) y := fun b e => by
  subst e
  cases x with
  | none => exact ⟨b, rfl, Int.le_refl _⟩
  | some c =>
    show ∃ a, (if c < b then some c else some b) = some a ∧ a ≤ b
    split
    · exact ⟨c, rfl, by omega⟩
    · exact ⟨b, rfl, Int.le_refl _⟩
theorem tight_or (x y : Code') : tightC x y = x ∨ tightC x y = y := by
  cases x with
  | none => exact .inr rfl
  | some a =>
    cases y with
    | none => exact .inl rfl
    | some b =>
      show (if a < b then some a else some b) = some a ∨ (if a < b then some a else some b) = some b
      split
      · exact .inl rfl
      · exact .inr rfl
theorem le_tight {x y z : Code'} (h : leC z x) (g : leC z y) : leC z (tightC x y) := by
  rcases tight_or x y with e | e
  · rw [e]; exact h
  · rw [e]; exact g
theorem sum_one_l (x : Code') : sumC (some 1) x = x := by
  cases x with
  | none => rfl
  | some a =>
    show (if (1 : Int) % 2 = 1 ∨ a % 2 = 1 then some (1 + a - 1) else some (1 + a)) = some a
    rw [if_pos (.inl (by decide))]
    congr 1
    omega
theorem sum_one_r (x : Code') : sumC x (some 1) = x := by
  cases x with
  | none => rfl
  | some a =>
    show (if a % 2 = 1 ∨ (1 : Int) % 2 = 1 then some (a + 1 - 1) else some (a + 1)) = some a
    rw [if_pos (.inr (by decide))]
    congr 1
    omega
theorem sum_none_r (x : Code') : sumC x none = none := by cases x <;> rfl
def addC (a b : Int) : Int := if a % 2 = 1 ∨ b % 2 = 1 then a + b - 1 else a + b
theorem sum_some (a b : Int) : sumC (some a) (some b) = some (addC a b) := by
  show (if a % 2 = 1 ∨ b % 2 = 1 then some (a + b - 1) else some (a + b)) = some (if a % 2 = 1 ∨ b % 2 = 1 then a + b - 1 else a + b)
  split <;> rfl
theorem addC_mono {a a' b b' : Int} (h : a ≤ a') (g : b ≤ b') : addC a b ≤ addC a' b' := by
  unfold addC
  split <;> split <;> omega
theorem addC_assoc (a b c : Int) : addC (addC a b) c = addC a (addC b c) := by
  unfold addC
  split <;> split <;> split <;> split <;> omega
theorem sum_assoc (x y z : Code') : sumC (sumC x y) z = sumC x (sumC y z) := by
  cases x with
  | none => rfl
  | some a =>
    cases y with
    | none => rfl
    | some b =>
      cases z with
      | none => rw [sum_none_r, sum_none_r, sum_none_r]
      | some c => rw [sum_some, sum_some, sum_some, sum_some, addC_assoc]
theorem sum_mono {x x' y y' : Code'} (h : leC x x') (g : leC y y') : leC (sumC x y) (sumC x' y') := fun b e => by
  cases x' with
  | none => cases e
  | some a' =>
    cases y' with
    | none => cases e
    | some b' =>
      obtain ⟨a, ha, h1⟩ := h a' rfl
      obtain ⟨c, hc, h2⟩ := g b' rfl
      subst ha hc
      rw [sum_some] at e
      cases e
      exact ⟨addC a c, sum_some a c, addC_mono h1 h2⟩
section
variable {α : Type} (c : α → α → Code')
/-- what a way adds up to -/
def val : List α → Code'
  | [] => none
  | [_] => some 1
  | x :: y :: r => sumC (c x y) (val (y :: r))
theorem val_cons {x y : α} {r : List α} : val c (x :: y :: r) = sumC (c x y) (val c (y :: r)) := by rw [val]
theorem val_append : ∀ (p : List α) (x : α) (r : List α), val c (p ++ x :: r) = sumC (val c (p ++ [x])) (val c (x :: r))
  | [], x, r => by
    show val c (x :: r) = sumC (some 1) _
    rw [sum_one_l]
  | [y], x, r => by
    show val c (y :: x :: r) = sumC (val c (y :: [x])) _
    rw [val_cons, val_cons]
    show _ = sumC (sumC (c y x) (some 1)) _
    rw [sum_one_r]
  | y :: z :: p, x, r => by
    have ih := val_append (z :: p) x r
    show val c (y :: z :: (p ++ x :: r)) = sumC (val c (y :: z :: (p ++ [x]))) _
    rw [val_cons, val_cons, sum_assoc]
    congr 1
end
/-- no way round that bars, of fewer than N steps -/
def Calm {α : Type} (c : α → α → Code') (N : Nat) : Prop := ∀ (x : α) (p : List α), (x :: p).length < N → (x :: p).getLast? = some x → leC (some 1) (val c (x :: p))
section
variable {α : Type} [DecidableEq α] (c : α → α → Code')
/-- the law's least way -/
def wayC : Nat → α → α → List α → Code'
  | 0, _, _, _ => none
  | k + 1, h, g, L => L.foldl (fun acc x => tightC acc (sumC (c h x) (wayC k x g (L.filter fun y => decide (y ≠ x))))) (c h g)
theorem fold_le {β : Type} {f : β → Code'} : ∀ {L : List β} {a : Code'}, leC (L.foldl (fun acc x => tightC acc (f x)) a) a ∧ ∀ x ∈ L, leC (L.foldl (fun acc x => tightC acc (f x)) a) (f x)
  | [], a => ⟨leC_refl a, fun _ h => nomatch h⟩
  | y :: L, a => by
    obtain ⟨h1, h2⟩ := fold_le (f := f) (L := L) (a := tightC a (f y))
    refine ⟨leC_trans h1 (tight_l _ _), fun x hx => ?_⟩
    rcases List.mem_cons.mp hx with rfl | hx
    · exact leC_trans h1 (tight_r _ _)
    · exact h2 x hx
theorem fold_or {β : Type} {f : β → Code'} : ∀ {L : List β} {a : Code'}, L.foldl (fun acc x => tightC acc (f x)) a = a ∨ ∃ x ∈ L, L.foldl (fun acc x => tightC acc (f x)) a = f x
  | [], a => .inl rfl
  | y :: L, a => by
    rcases fold_or (f := f) (L := L) (a := tightC a (f y)) with h | ⟨x, hx, h⟩
    · rcases tight_or a (f y) with e | e
      · exact .inl (h.trans e)
      · exact .inr ⟨y, List.mem_cons_self, h.trans e⟩
    · exact .inr ⟨x, List.mem_cons_of_mem _ hx, h⟩
/-- the law's least way is a way -/
theorem way_is : ∀ (k : Nat) (h g : α) (L : List α) (v : Int), wayC c k h g L = some v → ∃ p, (h :: p).getLast? = some g ∧ val c (h :: p) = some v ∧ ∀ x ∈ p, x = g ∨ x ∈ L
  | 0, _, _, _, v, e => by cases e
  | k + 1, h, g, L, v, e => by
    rw [wayC] at e
    rcases fold_or (f := fun x => sumC (c h x) (wayC c k x g (L.filter fun y => decide (y ≠ x)))) (L := L) (a := c h g) with z | ⟨x, hx, z⟩
    · rw [z] at e
      refine ⟨[g], rfl, ?_, fun x hx => .inl (List.mem_singleton.mp hx)⟩
      rw [val_cons, e]
      show sumC (some v) (some 1) = _
      rw [sum_one_r]
    · rw [z] at e
      have e : sumC (c h x) (wayC c k x g (L.filter fun y => decide (y ≠ x))) = some v := e
      cases hc : c h x with
      | none => rw [hc] at e; cases e
      | some a =>
        cases hw : wayC c k x g (L.filter fun y => decide (y ≠ x)) with
        | none => rw [hc, hw] at e; cases e
        | some b =>
          obtain ⟨p, h1, h2, h3⟩ := way_is k x g _ b hw
          refine ⟨x :: p, ?_, ?_, fun y hy => ?_⟩
          · rw [List.getLast?_cons_cons]
            exact h1
          · rw [val_cons, h2, ← hw]
            exact e
          · rcases List.mem_cons.mp hy with rfl | hy
            · exact .inr hx
            · exact (h3 y hy).imp id fun z => (List.mem_filter.mp z).1
theorem split_last {x : α} : ∀ {p : List α}, x ∈ p → ∃ q r, p = q ++ x :: r ∧ x ∉ r
  | y :: p, h => by
    by_cases hp : x ∈ p
    · obtain ⟨q, r, e, hr⟩ := split_last hp
      exact ⟨y :: q, r, by rw [e]; rfl, hr⟩
    · rcases List.mem_cons.mp h with rfl | h
      · exact ⟨[], p, rfl, hp⟩
      · exact absurd h hp
theorem le_round {x : Code'} {y : Code'} (h : leC (some 1) x) : leC y (sumC x y) := by
  have z := sum_mono h (leC_refl y)
  rw [sum_one_l] at z
  exact z
theorem le_round' {x : Code'} {y : Code'} (h : leC (some 1) x) : leC y (sumC y x) := by
  have z := sum_mono (leC_refl y) h
  rw [sum_one_r] at z
  exact z
/-- where no shorter way round bars, no way is shorter than the law's least -/
theorem way_least {N : Nat} (hN : Calm c N) : ∀ (k : Nat) (L : List α), L.length < k → ∀ (h g : α) (p : List α), h ≠ g → (h :: p).getLast? = some g → (h :: p).length < N → (∀ x ∈ p, x = h ∨ x = g ∨ x ∈ L) → leC (wayC c k h g L) (val c (h :: p))
  | 0, L, hk, _, _, _, _, _, _, _ => absurd hk (Nat.not_lt_zero _)
  | k + 1, L, hk, h, g, p, hne, hl, hlen, hin => by
    obtain ⟨q, r, e, hr⟩ := split_last (x := h) (p := h :: p) List.mem_cons_self
    have ev : val c (h :: p) = sumC (val c (q ++ [h])) (val c (h :: r)) := by rw [e, val_append]
    have hcl : leC (some 1) (val c (q ++ [h])) := by
      cases q with
      | nil => exact leC_refl _
      | cons y q' =>
        have e1 : y = h := by
          have z := e
          rw [List.cons_append] at z
          injection z with z _
          exact z.symm
        subst e1
        have hz : (y :: q' ++ [y]).length ≤ (y :: p).length := by
          rw [e]
          simp only [List.length_append, List.length_cons, List.length_nil]
          omega
        exact hN y (q' ++ [y]) (Nat.lt_of_le_of_lt hz hlen) (by rw [← List.cons_append, List.getLast?_append]; rfl)
    refine leC_trans ?_ (by rw [ev]; exact le_round hcl)
    have hl' : (h :: r).getLast? = some g := by
      rw [e, List.getLast?_append] at hl
      have z : (h :: r).getLast? ≠ none := by simp
      cases hz : (h :: r).getLast? with
      | none => exact absurd hz z
      | some y =>
        rw [hz] at hl
        exact hl
    have hlen' : (h :: r).length ≤ (h :: p).length := by
      rw [e, List.length_append]
      omega
    cases r with
    | nil =>
      have z : some h = some g := hl'
      exact absurd (Option.some.inj z) hne
    | cons x r' =>
      rw [List.getLast?_cons_cons] at hl'
      have hxp : ∀ y ∈ x :: r', y ∈ p := fun y hy => by
        have z : y ∈ h :: p := by
          rw [e]
          exact List.mem_append_right _ (List.mem_cons_of_mem _ hy)
        rcases List.mem_cons.mp z with rfl | z
        · exact absurd hy hr
        · exact z
      have hin' : ∀ y ∈ x :: r', y = g ∨ y ∈ L := fun y hy => (hin y (hxp y hy)).resolve_left fun z => hr (z ▸ hy)
      rw [val_cons, wayC]
      have hf := fold_le (f := fun x => sumC (c h x) (wayC c k x g (L.filter fun y => decide (y ≠ x)))) (L := L) (a := c h g)
      by_cases hxg : x = g
      · subst hxg
        refine leC_trans hf.1 (le_round' ?_)
        refine hN x r' ?_ hl'
        simp only [List.length_cons] at hlen' hlen ⊢
        omega
      · have hxL : x ∈ L := (hin' x List.mem_cons_self).resolve_left hxg
        refine leC_trans (hf.2 x hxL) (sum_mono (leC_refl _) ?_)
        have hLl : (L.filter fun y => decide (y ≠ x)).length < L.length := by
          have := List.length_filter_lt_length_iff_exists (p := fun y => decide (y ≠ x)) (l := L) |>.mpr ⟨x, hxL, by simp⟩
          exact this
        refine way_least hN k _ (by omega) x g r' hxg hl' ?_ fun y hy => ?_
        · simp only [List.length_cons] at hlen' hlen ⊢
          omega
        · by_cases hyx : y = x
          · exact .inl hyx
          · exact .inr ((hin' y (List.mem_cons_of_mem _ hy)).imp id fun z => List.mem_filter.mpr ⟨z, decide_eq_true hyx⟩)
end
end Rw
set_option Elab.async false
set_option linter.all false
set_option maxRecDepth 100000
set_option maxHeartbeats 4000000
namespace Rw
open PySem L2
theorem badC_le {x y : Code'} (h : leC x y) (g : badC y = true) : badC x = true := by
  cases y with
  | none => cases g
  | some b =>
    obtain ⟨a, rfl, h1⟩ := h b rfl
    have g : b < 1 := of_decide_eq_true g
    exact decide_eq_true (show a < 1 by omega)
theorem calm_of {x : Code'} (h : ¬ badC x = true) : leC (some 1) x := fun b e => by
  subst e
  have h : ¬ b < 1 := fun z => h (decide_eq_true z)
  exact ⟨1, rfl, by omega⟩
theorem not_bad {x : Code'} (h : leC (some 1) x) : ¬ badC x = true := fun g => by
  cases x with
  | none => cases g
  | some b =>
    obtain ⟨a, ha, h1⟩ := h b rfl
    cases ha
    have g : b < 1 := of_decide_eq_true g
    omega
section
variable {α : Type} [DecidableEq α] (c : α → α → Code') (ss : List α)
/-- those of all that are neither -/
def others (h g : α) : List α := ss.filter fun x => decide (x ≠ h ∧ x ≠ g)
def W (h g : α) : Code' := wayC c ((others ss h g).length + 1) h g (others ss h g)
/-- the law's word: two lie so that the way there and back bars -/
def LawBad : Prop := ∃ a b, a ∈ ss ∧ b ∈ ss ∧ a ≠ b ∧ badC (sumC (W c ss a b) (W c ss b a)) = true
/-- there are bounds between two of these alone, unlike -/
def Edge : Prop := ∀ x y v, c x y = some v → x ∈ ss ∧ y ∈ ss ∧ x ≠ y
theorem val_in {c : α → α → Code'} {ss : List α} (hE : Edge c ss) : ∀ {p : List α} {x y : α} {v : Int}, val c (x :: y :: p) = some v → ∀ z ∈ x :: y :: p, z ∈ ss
  | [], x, y, v, h => by
    rw [val_cons] at h
    cases hc : c x y with
    | none => rw [hc] at h; cases h
    | some a =>
      obtain ⟨h1, h2, _⟩ := hE x y a hc
      intro z hz
      rcases List.mem_cons.mp hz with rfl | hz
      · exact h1
      · rw [List.mem_singleton.mp hz]
        exact h2
  | w :: p, x, y, v, h => by
    rw [val_cons] at h
    cases hc : c x y with
    | none => rw [hc] at h; cases h
    | some a =>
      cases hv : val c (y :: w :: p) with
      | none => rw [hc, hv, sum_none_r] at h; cases h
      | some b =>
        intro z hz
        rcases List.mem_cons.mp hz with rfl | hz
        · exact (hE _ y a hc).1
        · exact val_in hE hv z hz
theorem way_small {c : α → α → Code'} {ss : List α} (hE : Edge c ss) {N : Nat} (hN : Calm c N) {h g : α} {p : List α} (hne : h ≠ g) (hl : (h :: p).getLast? = some g) (hlen : (h :: p).length < N) : leC (W c ss h g) (val c (h :: p)) := by
  cases hv : val c (h :: p) with
  | none => exact leC_none _
  | some v =>
    rw [← hv]
    refine way_least c hN _ _ (Nat.lt_succ_self _) h g p hne hl hlen fun x hx => ?_
    cases p with
    | nil => cases hx
    | cons y p =>
      have hs := val_in hE hv x (List.mem_cons_of_mem _ hx)
      by_cases h1 : x = h
      · exact .inl h1
      · by_cases h2 : x = g
        · exact .inr (.inl h2)
        · exact .inr (.inr (List.mem_filter.mpr ⟨hs, decide_eq_true ⟨h1, h2⟩⟩))
theorem way_first (h g : α) : leC (W c ss h g) (c h g) := by
  unfold W
  rw [wayC]
  exact fold_le.1
/-- a way round that bars is seen between two -/
theorem bad_two {c : α → α → Code'} {ss : List α} (hE : Edge c ss) : ∀ (N : Nat) (x : α) (p : List α), (x :: p).length = N → (x :: p).getLast? = some x → badC (val c (x :: p)) = true → LawBad c ss := by
  intro N
  induction N using Nat.strongRecOn with
  | _ N ih =>
    intro x p hlen hl hb
    by_cases hN : Calm c N
    · cases p with
      | nil =>
        have hb : badC (some 1) = true := hb
        exact absurd hb (by decide)
      | cons y r =>
        rw [val_cons] at hb
        cases hc : c x y with
        | none => rw [hc] at hb; cases hb
        | some a =>
          obtain ⟨h1, h2, h3⟩ := hE x y a hc
          rw [List.getLast?_cons_cons] at hl
          refine ⟨x, y, h1, h2, h3, badC_le (sum_mono (way_first c ss x y) (way_small hE hN (fun z => h3 z.symm) hl ?_)) hb⟩
          rw [← hlen]
          simp
    · unfold Calm at hN
      simp only [Classical.not_forall] at hN
      obtain ⟨y, q, h1, h2, h3⟩ := hN
      have hb' : badC (val c (y :: q)) = true := by
        cases hb' : badC (val c (y :: q)) with
        | true => rfl
        | false => exact absurd (calm_of (by rw [hb']; exact Bool.false_ne_true)) h3
      exact ih _ h1 y q rfl h2 hb'
/-- where the law finds nothing, no way round bars -/
theorem calm_all {c : α → α → Code'} {ss : List α} (hE : Edge c ss) (h : ¬ LawBad c ss) (N : Nat) : Calm c N := fun x p _ hl => calm_of fun hb => h (bad_two hE _ x p rfl hl hb)
theorem join_last {p q : List α} {x : α} (hp : p.getLast? = some x) : ∃ r, p = r ++ [x] := by
  have h : p ≠ [] := fun e => by rw [e] at hp; cases hp
  refine ⟨p.dropLast, ?_⟩
  have z := List.dropLast_concat_getLast h
  rw [List.getLast?_eq_some_getLast h] at hp
  rw [← Option.some.inj hp]
  exact z.symm
/-- a way from one to another that adds up to v -/
def Way (a b : α) (v : Int) : Prop := ∃ p, (a :: p).getLast? = some b ∧ val c (a :: p) = some v
theorem Way.join {c : α → α → Code'} {a b d : α} {v u : Int} (h : Way c a b v) (g : Way c b d u) : Way c a d (addC v u) := by
  obtain ⟨p, h1, h2⟩ := h
  obtain ⟨q, g1, g2⟩ := g
  obtain ⟨r, e⟩ := join_last (q := []) h1
  cases r with
  | nil =>
    have e : a :: p = [b] := e
    injection e with e1 e2
    subst e1 e2
    have h2 : some 1 = some v := h2
    cases h2
    refine ⟨q, g1, ?_⟩
    rw [g2]
    have z := sum_one_l (some u)
    rw [sum_some] at z
    exact z.symm
  | cons y r =>
    have e1 : a = y := by
      rw [List.cons_append] at e
      injection e
    subst e1
    refine ⟨r ++ b :: q, ?_, ?_⟩
    · rw [← List.cons_append, List.getLast?_append]
      cases hz : (b :: q).getLast? with
      | none => simp at hz
      | some z => rw [← hz, g1]; rfl
    · rw [← List.cons_append, val_append, ← e, h2, g2, sum_some]
end
end Rw
set_option Elab.async false
set_option linter.all false
set_option maxRecDepth 100000
set_option maxHeartbeats 4000000
namespace Rw
open PySem L2
section
variable {c : Str → Str → Code'} {ss : List Str} {n : Nat} {M0 : Mat}
/-- what holds of a grid when the first k spots have been gone through -/
structure Mid (c : Str → Str → Code') (ss : List Str) (n : Nat) (M0 M : Mat) (k : Nat) : Prop where
  sq : Sq M n
  diag : ∀ i, i < n → matAt M i i = some 1
  snd : ∀ i j a b v, ss[i]? = some a → ss[j]? = some b → matAt M i j = some v → Way c a b v
  dec : ∀ i j, i < n → j < n → leC (matAt M i j) (matAt M0 i j)
  tri : ∀ l, l < k → ∀ i j, i < n → j < n → leC (matAt M i j) (sumC (matAt M i l) (matAt M l j))
theorem Mid.start (hn : ss.length = n) (hM : Sq M0 n) (hat : ∀ i j a b, ss[i]? = some a → ss[j]? = some b → matAt M0 i j = if a = b then some 1 else c a b) : Mid c ss n M0 M0 0 := by
  refine ⟨hM, fun i hi => ?_, fun i j a b v ha hb hv => ?_, fun i j _ _ => leC_refl _, fun l hl => absurd hl (Nat.not_lt_zero _)⟩
  · have z : i < ss.length := by omega
    rw [hat i i _ _ (List.getElem?_eq_getElem z) (List.getElem?_eq_getElem z), if_pos rfl]
  · rw [hat i j a b ha hb] at hv
    by_cases e : a = b
    · rw [if_pos e] at hv
      subst e
      exact ⟨[], rfl, hv⟩
    · rw [if_neg e] at hv
      refine ⟨[b], rfl, ?_⟩
      rw [val_cons, hv]
      show sumC (some v) (some 1) = _
      rw [sum_one_r]
theorem Mid.way {M : Mat} {k : Nat} (h : Mid c ss n M0 M k) (hn : ss.length = n) (hk : k < n) {i j : Nat} {a b : Str} {v : Int} (ha : ss[i]? = some a) (hb : ss[j]? = some b) (hv : matAt (stepM n k M) i j = some v) : Way c a b v := by
  have hi : i < n := by have := (List.getElem?_eq_some_iff.mp ha).1; omega
  have hj : j < n := by have := (List.getElem?_eq_some_iff.mp hb).1; omega
  rw [step_at h.sq hi hj] at hv
  rcases tight_or (matAt M i j) (sumC (matAt M i k) (matAt M k j)) with e | e
  · rw [e] at hv
    exact h.snd i j a b v ha hb hv
  · rw [e] at hv
    have hkk : ss[k]? = some ss[k] := List.getElem?_eq_getElem (by omega)
    cases h1 : matAt M i k with
    | none => rw [h1] at hv; cases hv
    | some x =>
      cases h2 : matAt M k j with
      | none => rw [h1, h2] at hv; cases hv
      | some y =>
        rw [h1, h2, sum_some] at hv
        cases hv
        exact (h.snd i k _ _ x ha hkk h1).join (h.snd k j _ _ y hkk hb h2)
theorem Mid.bad {M : Mat} {k : Nat} (h : Mid c ss n M0 M k) (hn : ss.length = n) (hE : Edge c ss) (hk : k < n) (hb : negD n (stepM n k M) = true) : LawBad c ss := by
  unfold negD at hb
  obtain ⟨i, hi, hb⟩ := List.any_eq_true.mp hb
  have hi := List.mem_range.mp hi
  have hii : ss[i]? = some ss[i] := List.getElem?_eq_getElem (by omega)
  cases hv : matAt (stepM n k M) i i with
  | none => rw [hv] at hb; cases hb
  | some v =>
    obtain ⟨p, h1, h2⟩ := h.way hn hk hii hii hv
    rw [hv, ← h2] at hb
    exact bad_two hE _ _ p rfl h1 hb
theorem Mid.next {M : Mat} {k : Nat} (h : Mid c ss n M0 M k) (hn : ss.length = n) (hk : k < n) (hb : ¬ negD n (stepM n k M) = true) : Mid c ss n M0 (stepM n k M) (k + 1) := by
  have at' : ∀ {i j : Nat}, i < n → j < n → matAt (stepM n k M) i j = tightC (matAt M i j) (sumC (matAt M i k) (matAt M k j)) := fun hi hj => step_at h.sq hi hj
  have lel : ∀ {i j : Nat}, i < n → j < n → leC (matAt (stepM n k M) i j) (matAt M i j) := fun hi hj => by rw [at' hi hj]; exact tight_l _ _
  have ler : ∀ {i j : Nat}, i < n → j < n → leC (matAt (stepM n k M) i j) (sumC (matAt M i k) (matAt M k j)) := fun hi hj => by rw [at' hi hj]; exact tight_r _ _
  have e1 : ∀ {i : Nat}, i < n → matAt (stepM n k M) i k = matAt M i k := fun {i} hi => by
    rw [at' hi hk, h.diag k hk, sum_one_r]
    rcases tight_or (matAt M i k) (matAt M i k) with e | e <;> exact e
  have e2 : ∀ {j : Nat}, j < n → matAt (stepM n k M) k j = matAt M k j := fun {j} hj => by
    rw [at' hk hj, h.diag k hk, sum_one_l]
    rcases tight_or (matAt M k j) (matAt M k j) with e | e <;> exact e
  refine ⟨step_sq h.sq, fun i hi => ?_, fun i j a b v ha hb' hv => h.way hn hk ha hb' hv, fun i j hi hj => leC_trans (lel hi hj) (h.dec i j hi hj), fun l hl i j hi hj => ?_⟩
  · have h1 : leC (matAt (stepM n k M) i i) (some 1) := by
      rw [← h.diag i hi]
      exact lel hi hi
    refine leC_anti h1 (calm_of fun hbad => hb ?_)
    unfold negD
    exact List.any_eq_true.mpr ⟨i, List.mem_range.mpr hi, hbad⟩
  · by_cases hlk : l = k
    · subst hlk
      rw [e1 hi, e2 hj]
      exact ler hi hj
    · have hl' : l < k := by omega
      have hln : l < n := by omega
      have t1 := h.tri l hl'
      rw [at' hi hln, at' hln hj]
      rcases tight_or (matAt M i l) (sumC (matAt M i k) (matAt M k l)) with e | e <;> rcases tight_or (matAt M l j) (sumC (matAt M l k) (matAt M k j)) with g | g <;> rw [e, g]
      · exact leC_trans (lel hi hj) (t1 i j hi hj)
      · rw [← sum_assoc]
        exact leC_trans (ler hi hj) (sum_mono (t1 i k hi hk) (leC_refl _))
      · rw [sum_assoc]
        exact leC_trans (ler hi hj) (sum_mono (leC_refl _) (t1 k j hk hj))
      · have z : leC (sumC (matAt M i k) (matAt M k j)) (sumC (sumC (matAt M i k) (matAt M k l)) (sumC (matAt M l k) (matAt M k j))) := by
          rw [sum_assoc, ← sum_assoc (matAt M k l)]
          refine sum_mono (leC_refl _) ?_
          have y := sum_mono (t1 k k hk hk) (leC_refl (matAt M k j))
          rw [h.diag k hk, sum_one_l] at y
          exact y
        exact leC_trans (ler hi hj) z
theorem Mid.all (hn : ss.length = n) (hE : Edge c ss) : ∀ (d k : Nat) (M : Mat), d = n - k → k ≤ n → Mid c ss n M0 M k → (shutF n ((List.range n).drop k) M = none → LawBad c ss) ∧ ∀ M', shutF n ((List.range n).drop k) M = some M' → Mid c ss n M0 M' n
  | 0, k, M, hd, hk, h => by
    have e : k = n := by omega
    subst e
    rw [List.drop_eq_nil_of_le (Nat.le_of_eq List.length_range)]
    exact ⟨(fun z => nomatch (show (some M : Option Mat) = none from z)), (fun M' z => by
      have z : (some M : Option Mat) = some M' := z
      cases z
      exact h)⟩
  | d + 1, k, M, hd, hk, h => by
    have lt : k < n := by omega
    have hdr : (List.range n).drop k = k :: (List.range n).drop (k + 1) := by
      rw [List.drop_eq_getElem_cons (by rw [List.length_range]; exact lt), List.getElem_range]
    rw [hdr]
    unfold shutF
    by_cases hb : negD n (stepM n k M) = true
    · rw [if_pos hb]
      exact ⟨fun _ => h.bad hn hE lt hb, (fun M' z => nomatch z)⟩
    · rw [if_neg hb]
      exact Mid.all hn hE d (k + 1) _ (by omega) lt (h.next hn lt hb)
theorem Mid.least {M : Mat} (h : Mid c ss n M0 M n) (hn : ss.length = n) (hnd : ss.Nodup) (hE : Edge c ss) (hat : ∀ i j a b, ss[i]? = some a → ss[j]? = some b → matAt M0 i j = if a = b then some 1 else c a b) :
    ∀ (p : List Str) (i j : Nat) (a b : Str), ss[i]? = some a → ss[j]? = some b → (a :: p).getLast? = some b → leC (matAt M i j) (val c (a :: p))
  | [], i, j, a, b, ha, hb, hl => by
    have e : a = b := Option.some.inj hl
    subst e
    have e2 := at_inj hnd ha hb
    subst e2
    have hi : i < n := by have := (List.getElem?_eq_some_iff.mp ha).1; omega
    rw [h.diag i hi]
    exact leC_refl _
  | y :: p, i, j, a, b, ha, hb, hl => by
    rw [List.getLast?_cons_cons] at hl
    have hi : i < n := by have := (List.getElem?_eq_some_iff.mp ha).1; omega
    have hj : j < n := by have := (List.getElem?_eq_some_iff.mp hb).1; omega
    rw [val_cons]
    cases hc : c a y with
    | none => exact leC_none _
    | some v =>
      obtain ⟨_, hy, hne⟩ := hE a y v hc
      obtain ⟨l, hl', el⟩ := List.mem_iff_getElem.mp hy
      have hyl : ss[l]? = some y := by rw [List.getElem?_eq_getElem hl', el]
      have hln : l < n := by omega
      refine leC_trans (h.tri l hln i j hi hj) (sum_mono ?_ (Mid.least h hn hnd hE hat p l j y b hyl hb hl))
      have z := h.dec i l hi hln
      rw [hat i l a y ha hyl, if_neg hne, hc] at z
      exact z
/-- the program's grid, shut, tells what the law's least ways tell -/
theorem shut_law (hn : ss.length = n) (hnd : ss.Nodup) (hE : Edge c ss) (hpos : 0 < n) (hM : Sq M0 n) (hat : ∀ i j a b, ss[i]? = some a → ss[j]? = some b → matAt M0 i j = if a = b then some 1 else c a b) :
    (shutM n M0 = none ∧ LawBad c ss) ∨ ∃ M', shutM n M0 = some M' ∧ ¬ LawBad c ss ∧ ∀ i j a b, ss[i]? = some a → ss[j]? = some b → matAt M' i j = if a = b then some 1 else W c ss a b := by
  obtain ⟨h0, h1⟩ := Mid.all hn hE n 0 M0 (Nat.sub_zero n).symm (Nat.zero_le n) (Mid.start hn hM hat)
  have e : shutF n ((List.range n).drop 0) M0 = shutM n M0 := rfl
  rw [e] at h0 h1
  cases hs : shutM n M0 with
  | none => exact .inl ⟨rfl, h0 hs⟩
  | some M' =>
    have h := h1 M' hs
    have hcalm : ∀ N, Calm c N := fun N x p _ hl => calm_of fun hb => by
      cases p with
      | nil => exact absurd (show badC (some 1) = true from hb) (by decide)
      | cons y r =>
        cases hv : val c (x :: y :: r) with
        | none => rw [hv] at hb; cases hb
        | some v =>
          obtain ⟨i, hi, ei⟩ := List.mem_iff_getElem.mp (val_in hE hv x List.mem_cons_self)
          have hx : ss[i]? = some x := by rw [List.getElem?_eq_getElem hi, ei]
          have z := h.least hn hnd hE hat (y :: r) i i x x hx hx hl
          rw [h.diag i (by omega)] at z
          exact not_bad z hb
    have hno : ¬ LawBad c ss := fun ⟨a, b, ha, hb, hne, hbad⟩ => by
      cases h1 : W c ss a b with
      | none => rw [h1] at hbad; cases hbad
      | some v =>
        cases h2 : W c ss b a with
        | none => rw [h1, h2] at hbad; cases hbad
        | some u =>
          obtain ⟨p, g1, g2, _⟩ := way_is c _ a b _ v h1
          obtain ⟨q, g3, g4, _⟩ := way_is c _ b a _ u h2
          obtain ⟨r, k1, k2⟩ := Way.join ⟨p, g1, g2⟩ ⟨q, g3, g4⟩
          rw [h1, h2, sum_some, ← k2] at hbad
          exact not_bad (hcalm _ a r (Nat.lt_succ_self _) k1) hbad
    refine .inr ⟨M', rfl, hno, fun i j a b ha hb => ?_⟩
    by_cases hab : a = b
    · subst hab
      have e2 := at_inj hnd ha hb
      subst e2
      rw [if_pos rfl]
      exact h.diag i (by have := (List.getElem?_eq_some_iff.mp ha).1; omega)
    · rw [if_neg hab]
      refine leC_anti (fun v hv => ?_) fun v hv => ?_
      · obtain ⟨p, g1, g2, _⟩ := way_is c _ a b _ v hv
        have z := h.least hn hnd hE hat p i j a b ha hb g1
        rw [g2] at z
        exact z v rfl
      · obtain ⟨p, g1, g2⟩ := h.snd i j a b v ha hb hv
        have z := way_small hE (hcalm _) hab g1 (Nat.lt_succ_self _)
        rw [g2] at z
        exact z v rfl
end
end Rw
set_option Elab.async false
set_option linter.all false
set_option maxRecDepth 100000
set_option maxHeartbeats 8000000
namespace Rw
open PySem L2
abbrev sWords : Stmt := top 44
abbrev sMore : Stmt := top 47
abbrev sTight : Stmt := top 48
abbrev sBars : Stmt := top 49
/-! ### bounds of the law: None, or a tuple of a number and a mark -/
def RC : Hp → V → Code' → Prop := fun H v c => (c = none ∧ v = .non) ∨ ∃ k, c = some k ∧ RB H v (boundC k)
theorem RC.same {H H' : Hp} {v : V} {c : Code'} (h : RC H v c) (s : Same H H') : RC H' v c := by
  rcases h with h | ⟨k, e, h⟩
  · exact .inl h
  · exact .inr ⟨k, e, h.mono fun a xs e => s _ _ e⟩
theorem boundC_s (k : Int) : (boundC k).2 = 0 ∨ (boundC k).2 = 1 := by
  unfold boundC
  dsimp only
  split
  · exact .inl rfl
  · exact .inr rfl
theorem code_bound (k : Int) : codeB (boundC k) = k := by
  unfold codeB boundC
  dsimp only
  have h := Int.fdiv_eq_ediv_of_nonneg k (show (0 : Int) ≤ 2 by decide)
  rw [h]
  by_cases z : k % 2 = 1
  · rw [if_pos z, if_neg (by decide)]
    omega
  · rw [if_neg z, if_pos rfl]
    omega
theorem bound_code {b : Bd} (h : b.2 = 0 ∨ b.2 = 1) : boundC (codeB b) = b := by
  obtain ⟨n, s⟩ := b
  unfold codeB boundC
  dsimp only at h ⊢
  have e : ∀ x : Int, x.fdiv 2 = x / 2 := fun x => Int.fdiv_eq_ediv_of_nonneg x (by decide)
  rw [e]
  rcases h with rfl | rfl
  · rw [if_neg (by decide), if_pos (by omega)]
    congr 1
    omega
  · rw [if_pos rfl, if_neg (by omega)]
    congr 1
    omega
theorem bound_add (a b : Int) : boundC (addC a b) = ((boundC a).1 + (boundC b).1, if (boundC a).2 < (boundC b).2 then (boundC b).2 else (boundC a).2) := by
  unfold boundC addC
  dsimp only
  have e : ∀ x : Int, x.fdiv 2 = x / 2 := fun x => Int.fdiv_eq_ediv_of_nonneg x (by decide)
  rw [e, e, e]
  by_cases ha : a % 2 = 1 <;> by_cases hb : b % 2 = 1 <;> simp only [ha, hb, if_true, if_false, or_true, true_or, or_false, or_self] <;> ext1 <;> (try dsimp only) <;> (try split) <;> (try split) <;> (try omega)
section
variable {P : Program} {w : World} {K : PySem.W.Frag} {mg : Str → Option Value} {base : Heap}
def spMore (K : PySem.W.Frag) : Sp := fun vs H Q _ => ∃ (v u : V) (x y : Code'), vs = [v, u] ∧ RC H v x ∧ RC H u y ∧ ∀ w H', Same H H' → RC H' w (sumC x y) → Q w H'
theorem scMore : FnScope ["_law_one_here", "_law_other"] ["_law_one_here", "_law_other"] (defScope sMore) := ⟨rfl, rfl, rfl, by decide +kernel, rfl, by decide +kernel, by decide +kernel⟩
theorem ok_more {f : Addr} {fd : FuncData} (F : Fun K "_law_more" "_law_more" sMore f fd) (mm : mg "max" = none) : FnOk P w K mg base CX0 1 f fd ["_law_one_here", "_law_other"] (spMore K) := by
  refine F.ok scMore (fun vs H Q E h => ?_) (fun cdv A outer s H vs Q E hr h => ?_)
  · obtain ⟨v, u, x, y, rfl, _⟩ := h
    rfl
  obtain ⟨v, u, x, y, rfl, hx, hy, q⟩ := h
  refine ⟨_, pss_cons (ps_if (PW.pt (pw_or (pt_cmpR op_isN (pv 0) pe_non (nomark _)) (pw_or1 (pt_cmpR op_isN (pv 1) pe_non (nomark _))))) (pss_one (ps_ret pe_non)) pss_nil)
    (pss_one (ps_ret (pe_tup (pa_cons (pe_op op_add (pe_ix ix_tup (pv 0) pe_int (fun _ _ => rfl)) (pe_ix ix_tup (pv 1) pe_int (fun _ _ => rfl)))
      (pa_cons (pe_callB (call_max2 rfl) rfl mm (by decide +kernel) (pa_cons (pe_ix ix_tup (pv 0) pe_int (fun _ _ => rfl)) (pa_cons (pe_ix ix_tup (pv 1) pe_int (fun _ _ => rfl)) pa_nil))) pa_nil))))), ?_⟩
  rcases hx with ⟨rfl, rfl⟩ | ⟨k, rfl, a, rfl, ha⟩
  · exact ⟨_, rfl, rfl, true, rfl, (if_pos rfl).mpr ((if_pos rfl).mpr (q .non H (Same.refl H) (.inl ⟨rfl, rfl⟩)))⟩
  refine ⟨_, rfl, rfl, false, rfl, (if_neg Bool.false_ne_true).mpr ?_⟩
  rcases hy with ⟨rfl, rfl⟩ | ⟨j, rfl, b, rfl, hb⟩
  · exact ⟨_, rfl, rfl, true, rfl, (if_pos rfl).mpr (q .non H (Same.refl H) (.inl ⟨rfl, rfl⟩))⟩
  refine ⟨_, rfl, rfl, false, rfl, (if_neg Bool.false_ne_true).mpr ?_⟩
  have a0 : atI [V.int (boundC k).1, .int (boundC k).2] 0 = some (.int (boundC k).1) := rfl
  have a1 : atI [V.int (boundC k).1, .int (boundC k).2] 1 = some (.int (boundC k).2) := rfl
  have b0 : atI [V.int (boundC j).1, .int (boundC j).2] 0 = some (.int (boundC j).1) := rfl
  have b1 : atI [V.int (boundC j).1, .int (boundC j).2] 1 = some (.int (boundC j).2) := rfl
  refine ⟨_, rfl, a, _, _, _, rfl, rfl, SqT.of ha, a0, _, rfl, b, _, _, _, rfl, rfl, SqT.of hb, b0, _, _, rfl, rfl, ?_⟩
  refine ⟨_, rfl, a, _, _, _, rfl, rfl, SqT.of ha, a1, _, rfl, b, _, _, _, rfl, rfl, SqT.of hb, b1, _, _, rfl, (by show 2 ≤ sizeLine; decide), fun p hp => ?_⟩
  refine q (.ref p) _ (same_new hp _) (.inr ⟨addC k j, sum_some k j, p, rfl, ?_⟩)
  rw [upd_same, bound_add]
def spTight (K : PySem.W.Frag) : Sp := fun vs H Q _ => ∃ (v u : V) (x y : Code'), vs = [v, u] ∧ RC H v x ∧ RC H u y ∧ ∀ w H', Same H H' → RC H' w (tightC x y) → Q w H'
theorem scTight : FnScope ["_law_one_here", "_law_other"] ["_law_one_here", "_law_other"] (defScope sTight) := ⟨rfl, rfl, rfl, by decide +kernel, rfl, by decide +kernel, by decide +kernel⟩
theorem lex_code (k j : Int) : HT.lexLt [(boundC k).1, 0 - (boundC k).2] [(boundC j).1, 0 - (boundC j).2] = decide (k < j) := by
  rw [HT.lexLt_cons, HT.lexLt_cons, HT.lexLt_nil_nil]
  unfold boundC
  dsimp only
  have e : ∀ x : Int, x.fdiv 2 = x / 2 := fun x => Int.fdiv_eq_ediv_of_nonneg x (by decide)
  rw [e, e, Bool.eq_iff_iff, decide_eq_true_eq]
  by_cases h1 : k / 2 = j / 2
  · rw [if_pos h1]
    by_cases ha : k % 2 = 1 <;> by_cases hb : j % 2 = 1 <;> simp only [ha, hb, if_true, if_false] <;> (try simp) <;> omega
  · rw [if_neg h1, decide_eq_true_eq]
    omega
theorem ok_tight {f : Addr} {fd : FuncData} (F : Fun K "_law_tight" "_law_tight" sTight f fd) : FnOk P w K mg base CX0 1 f fd ["_law_one_here", "_law_other"] (spTight K) := by
  refine F.ok scTight (fun vs H Q E h => ?_) (fun cdv A outer s H vs Q E hr h => ?_)
  · obtain ⟨v, u, x, y, rfl, _⟩ := h
    rfl
  obtain ⟨v, u, x, y, rfl, hx, hy, q⟩ := h
  refine ⟨_, pss_cons (ps_if (PW.pt (pw_or (pt_cmpR op_isN (pv 0) pe_non (nomark _)) (pw_or1 (pt_cmpR op_isN (pv 1) pe_non (nomark _))))) (pss_one (ps_ret (pe_ifExp (pt_cmpR op_isN (pv 0) pe_non (nomark _)) (pv 1) (pv 0)))) pss_nil)
    (pss_one (ps_ret (pe_ifExp (pt_cmpR (op_ltT hr.units0) (pe_tup (pa_cons (pe_ix ix_tup (pv 0) pe_int (fun _ _ => rfl)) (pa_cons (pe_op op_sub pe_int (pe_ix ix_tup (pv 0) pe_int (fun _ _ => rfl))) pa_nil)))
      (pe_tup (pa_cons (pe_ix ix_tup (pv 1) pe_int (fun _ _ => rfl)) (pa_cons (pe_op op_sub pe_int (pe_ix ix_tup (pv 1) pe_int (fun _ _ => rfl))) pa_nil))) (nomark _)) (pv 0) (pv 1)))), ?_⟩
  rcases hx with ⟨rfl, rfl⟩ | ⟨k, rfl, a, rfl, ha⟩
  · exact ⟨_, rfl, rfl, true, rfl, (if_pos rfl).mpr ((if_pos rfl).mpr ⟨_, rfl, rfl, true, rfl, (if_pos rfl).mpr ⟨_, rfl, q u H (Same.refl H) hy⟩⟩)⟩
  refine ⟨_, rfl, rfl, false, rfl, (if_neg Bool.false_ne_true).mpr ?_⟩
  rcases hy with ⟨rfl, rfl⟩ | ⟨j, rfl, b, rfl, hb⟩
  · exact ⟨_, rfl, rfl, true, rfl, (if_pos rfl).mpr ⟨_, rfl, rfl, false, rfl, (if_neg Bool.false_ne_true).mpr ⟨_, rfl, q (.ref a) H (Same.refl H) (.inr ⟨k, rfl, a, rfl, ha⟩)⟩⟩⟩
  refine ⟨_, rfl, rfl, false, rfl, (if_neg Bool.false_ne_true).mpr ?_⟩
  have a0 : atI [V.int (boundC k).1, .int (boundC k).2] 0 = some (.int (boundC k).1) := rfl
  have a1 : atI [V.int (boundC k).1, .int (boundC k).2] 1 = some (.int (boundC k).2) := rfl
  have b0 : atI [V.int (boundC j).1, .int (boundC j).2] 0 = some (.int (boundC j).1) := rfl
  have b1 : atI [V.int (boundC j).1, .int (boundC j).2] 1 = some (.int (boundC j).2) := rfl
  refine ⟨_, rfl, a, _, _, _, rfl, rfl, SqT.of ha, a0, _, rfl, a, _, _, _, rfl, rfl, SqT.of ha, a1, _, _, rfl, rfl, (by show 2 ≤ sizeLine; decide), fun p hp => ?_⟩
  have s1 : Same H (upd H p (.tup [.int (boundC k).1, .int (0 - (boundC k).2)])) := same_new hp _
  refine ⟨_, rfl, b, _, _, _, rfl, rfl, SqT.of (s1 _ _ hb), b0, _, rfl, b, _, _, _, rfl, rfl, SqT.of (s1 _ _ hb), b1, _, _, rfl, rfl, (by show 2 ≤ sizeLine; decide), fun p2 hp2 => ?_⟩
  have s2 := same_new hp2 (.tup [.int (boundC j).1, .int (0 - (boundC j).2)])
  refine ⟨p, p2, [(boundC k).1, 0 - (boundC k).2], [(boundC j).1, 0 - (boundC j).2], rfl, rfl, SqT.of (s2 _ _ upd_same), SqT.of upd_same, _, rfl, ?_⟩
  rw [lex_code]
  have s12 := s1.trans s2
  have q : ∀ w H', Same H H' → RC H' w (if k < j then some k else some j) → Q w H' := q
  refine ite2 (fun c => ?_) (fun c => ?_)
  · refine ⟨_, rfl, q (.ref a) _ s12 ?_⟩
    rw [if_pos (of_decide_eq_true c)]
    exact .inr ⟨k, rfl, a, rfl, s12 _ _ ha⟩
  · refine ⟨_, rfl, q (.ref b) _ s12 ?_⟩
    rw [if_neg fun z => c (decide_eq_true z)]
    exact .inr ⟨j, rfl, b, rfl, s12 _ _ hb⟩
def spBars (K : PySem.W.Frag) : Sp := fun vs H Q _ => ∃ (v : V) (x : Code'), vs = [v] ∧ RC H v x ∧ Q (.bl (badC x)) H
theorem scBars : FnScope ["_law_bound"] ["_law_bound"] (defScope sBars) := ⟨rfl, rfl, rfl, by decide +kernel, rfl, by decide +kernel, by decide +kernel⟩
theorem ok_bars {f : Addr} {fd : FuncData} (F : Fun K "_law_bars" "_law_bars" sBars f fd) : FnOk P w K mg base CX0 1 f fd ["_law_bound"] (spBars K) := by
  refine F.ok scBars (fun vs H Q E h => ?_) (fun cdv A outer s H vs Q E hr h => ?_)
  · obtain ⟨v, x, rfl, _⟩ := h
    rfl
  obtain ⟨v, x, rfl, hx, q⟩ := h
  refine ⟨_, pss_one (ps_ret (pe_and (pe_cmpR op_notN (pv 0) pe_non (nomark _)) (pe_one (pe_or (pe_cmpR op_lt (pe_ix ix_tup (pv 0) pe_int (fun _ _ => rfl)) pe_int (nomark _))
    (pe_one (pe_and (pe_cmpR op_eq (pe_ix ix_tup (pv 0) pe_int (fun _ _ => rfl)) pe_int (nomark _)) (pe_one (pe_cmpR op_eq (pe_ix ix_tup (pv 0) pe_int (fun _ _ => rfl)) pe_int (nomark _))))))))), ?_⟩
  rcases hx with ⟨rfl, rfl⟩ | ⟨k, rfl, a, rfl, ha⟩
  · exact ⟨_, rfl, rfl, false, rfl, (if_neg Bool.false_ne_true).mpr q⟩
  have a0 : atI [V.int (boundC k).1, .int (boundC k).2] 0 = some (.int (boundC k).1) := rfl
  have a1 : atI [V.int (boundC k).1, .int (boundC k).2] 1 = some (.int (boundC k).2) := rfl
  have ed : (boundC k).1 = k / 2 := Int.fdiv_eq_ediv_of_nonneg k (by decide)
  have q : Q (.bl (decide (k < 1))) H := q
  refine ⟨_, rfl, rfl, true, rfl, (if_pos rfl).mpr ?_⟩
  refine ⟨_, rfl, a, _, _, _, rfl, rfl, SqT.of ha, a0, _, _, rfl, rfl, _, rfl, ?_⟩
  refine ite2 (fun c => ?_) (fun c => ?_)
  · have c := of_decide_eq_true c
    rw [decide_eq_true (show k < 1 by omega)] at q
    exact q
  · have c : ¬ (boundC k).1 < 0 := fun z => c (decide_eq_true z)
    refine ⟨_, rfl, a, _, _, _, rfl, rfl, SqT.of ha, a0, rfl, _, rfl, ?_⟩
    refine ite2 (fun e => ?_) (fun e => ?_)
    · have e : (boundC k).1 = 0 := by
        have z := of_decide_eq_true e
        injection z
      refine ⟨_, rfl, a, _, _, _, rfl, rfl, SqT.of ha, a1, rfl, ?_⟩
      have z : decide (V.int (boundC k).2 = V.int 1) = decide (k < 1) := by
        rw [dec_int, Bool.eq_iff_iff, decide_eq_true_eq, beq_iff_eq]
        have e2 : (boundC k).2 = if k % 2 = 1 then 0 else 1 := rfl
        rw [e2]
        split <;> omega
      rw [z]
      exact q
    · have e : ¬ (boundC k).1 = 0 := fun z => e (decide_eq_true (by rw [z]))
      rw [decide_eq_false (show ¬ k < 1 by omega)] at q
      exact q
end
end Rw
set_option Elab.async false
set_option linter.all false
set_option maxRecDepth 100000
set_option maxHeartbeats 8000000
namespace Rw
open PySem L2
abbrev sRest : Stmt := top 55
/-- the pairs that dict(..) is made of -/
theorem pairs_kvs {β : Type} {R : V → β → Prop} {H : Hp} : ∀ {es : List (Pr × β)} {ps : List Addr}, Paired (fun e p => ∃ qa v, H p = some (.tup [.ref qa, v]) ∧ IsPr H qa e.1 ∧ R v e.2) es ps →
    ∃ kvs : List (List Key × V), Paired (fun p kv => ∃ b, H p = some (.tup [.ref b, kv.2]) ∧ H b = some (.tup (kv.1.map kV))) ps kvs ∧ Paired (fun e kv => kv.1 = key2 e.1 ∧ R kv.2 e.2) es kvs ∧ kvs.map (·.1) = es.map fun e => key2 e.1
  | _, _, .nil => ⟨[], .nil, .nil, rfl⟩
  | e :: es, p :: ps, .cons ⟨qa, v, h1, h2, h3⟩ t => by
    obtain ⟨kvs, g1, g2, g3⟩ := pairs_kvs t
    exact ⟨(key2 e.1, v) :: kvs, .cons ⟨qa, h1, h2⟩ g1, .cons ⟨rfl, h3⟩ g2, by rw [List.map_cons, List.map_cons, g3]⟩
theorem keys_nd {β : Type} {es : List (Pr × β)} (h : (es.map (·.1)).Nodup) : (es.map fun e => key2 e.1).Nodup := by
  have e : (es.map fun e => key2 e.1) = (es.map (·.1)).map key2 := by rw [List.map_map]; rfl
  rw [e]
  exact (List.pairwise_map.mpr (List.Pairwise.imp (fun h z => h (key2_inj z)) h))
theorem sqT_put {K : PySem.W.Frag} {H : Hp} {d a : Addr} {u o : HO} {xs : List V} (e : H d = some u) (n1 : ∀ ys, u ≠ .tup ys) (n2 : ∀ z ys, u ≠ .frz z (.tup ys)) (h : SqT K H a xs) : SqT K (upd H d o) a xs := by
  rcases h with (h | ⟨z, h⟩) | h
  · exact .inl (.inl (by rw [upd_ne (ne_of h e fun z => n1 _ z.symm)]; exact h))
  · exact .inl (.inr ⟨z, by rw [upd_ne (ne_of h e fun z => n2 _ _ z.symm)]; exact h⟩)
  · exact .inr h
theorem RW.putL {K : PySem.W.Frag} {H : Hp} {d : Addr} {u o : HO} {v : V} {b : Bd} (e : H d = some u) (n1 : ∀ ys, u ≠ .tup ys) (n2 : ∀ z ys, u ≠ .frz z (.tup ys)) (h : Rw.RW K H v b) : Rw.RW K (upd H d o) v b := by
  obtain ⟨a, e1, h⟩ := h
  exact ⟨a, e1, sqT_put e n1 n2 h⟩
section
variable {P : Program} {w : World} {K : PySem.W.Frag} {mg : Str → Option Value} {base : Heap}
def spWords (K : PySem.W.Frag) : Sp := fun vs H Q _ => ∃ (d : Addr) (m : List (Pr × Bd)), vs = [.ref d] ∧ DT RB H d m ∧ (m.map (·.1)).Nodup ∧ m.length ≤ 1000 ∧ ∀ (r : Addr) (H' : Hp), H r = none → Same H H' → DT (RW K) H' r m → Q (.ref r) H'
theorem scWords : FnScope ["_law_bounds", "_law_pair"] ["_law_bounds"] (defScope sWords) := ⟨rfl, rfl, rfl, by decide +kernel, rfl, by decide +kernel, by decide +kernel⟩
theorem ok_words {f fw : Addr} {fd fdw : FuncData} (F : Fun K "_law_words" "_law_words" sWords f fd) (GW : FnOk P w K mg base CX0 1 fw fdw ["_law_bound"] (spWord K)) (bW : Binds K fdw ["_law_bound"] []) (kW : PySem.W.keepIn K (.ref fw) = true) (mW : mg "_law_word" = some (.ref fw))
    (md : mg "dict" = none) : FnOk P w K mg base CX0 2 f fd ["_law_bounds"] (spWords K) := by
  refine F.ok scWords (fun vs H Q E h => ?_) (fun cdv A outer s H vs Q E hr h => ?_)
  · obtain ⟨d, m, rfl, _⟩ := h
    rfl
  obtain ⟨d, m, rfl, ⟨kvs, hd, hpr⟩, hnd, hml, q⟩ := h
  have hu := hu_of hr
  refine ⟨_, pss_one (ps_ret (pe_lock (pe_callTy (call_dictT rfl (Nat.lt_of_le_of_lt (Nat.add_le_add_left (by decide : 2 ≤ 64) _) hr.units)) rfl md PyProof.Rows.boot_dict (pa_cons
      (pe_lc (own := [("_law_pair", 1)]) (g := gName 1) (tt := tYes) rfl scWords.nd (pi_keys (pv 0)) (blkOk_by (N := ["_law_bounds", "_law_pair"]) (sc := defScope sWords) (by decide +kernel)) (fun _ _ _ _ _ => pg_name (i := 1) scWords.nd rfl (Or.inl rfl)) (fun _ _ _ _ _ => pts_nil)
        (fun _ _ _ _ _ => pe_tup (pa_cons (pv 1) (pa_cons (pe_call GW hr rfl mW kW bW .nil pass0 (pa_cons (pe_dget hu (pv 0) (pv 1) (fun _ _ => rfl)) pa_nil)) pa_nil)))) pa_nil)))), ?_⟩
  have hlk : m.length = kvs.length := Paired.length hpr
  refine ⟨d, .dT kvs, hd, True.intro, fun od => ?_⟩
  have lk0 : Lk H (upd H d (.frz od (.dT kvs))) d od (.dT kvs) := Lk.first
  refine ⟨_, rfl, d, od, rfl, .inr ⟨kvs, lk0.at', fun D hD => ?_⟩⟩
  generalize upd H d (.frz od (.dT kvs)) = H1 at lk0 hD
  refine lc_map (S := Same) walk_keysT (stp_same D) hD (by omega) (ofL m fun _ => true) (fun j H y => ∃ r, y = .ref r ∧ ∃ e, m[j]? = some e ∧ ∃ qa v, H r = some (.tup [.ref qa, v]) ∧ IsPr H qa e.1 ∧ RW K H v e.2) ?_ ?_ ?_ ?_ ?_
  · rintro j H2 H3 y s2 ⟨r, rfl, e, he, qa, v, h1, h2, h3⟩
    exact ⟨r, rfl, e, he, qa, v, s2 _ _ h1, h2.same s2, h3.same s2⟩
  · rintro j H2 y acc o hacc ⟨r, rfl, e, he, qa, v, h1, h2, h3⟩
    refine ⟨r, rfl, e, he, qa, v, ?_, ?_, RW.putL hacc (fun _ z => nomatch z) (fun _ _ z => nomatch z) h3⟩
    · rw [upd_ne (ne_of h1 hacc fun z => nomatch z)]
      exact h1
    · unfold IsPr at h2 ⊢
      rw [upd_ne (ne_of h2 hacc fun z => nomatch z)]
      exact h2
  · intro H2 s2
    exact s2 _ _ lk0.at'
  · rintro j x H2 H3 acc N Z hj s2 hacc ⟨rfl, k, v, qa, hkv, rfl, hqa⟩ hyes hno
    obtain ⟨e, he, hek, hev⟩ := paired_at hpr hkv
    have hek : k = key2 e.1 := hek
    subst hek
    have hqa : IsPr H3 qa e.1 := hqa
    have hem : e ∈ m := List.mem_of_getElem? he
    rcases pl_look (R := fun v b => RB H v b) e.1 hpr with ⟨g1, _⟩ | ⟨b, v', g1, g2, g3⟩
    · exact absurd g1 (look_mem hem)
    rw [look_of hnd hem] at g1
    cases g1
    have lk := lk0.same s2
    have gd : DGet H3 d (.ref qa) (some v') := .inr ⟨kvs, key2 e.1, qa, .inr ⟨od, lk.at'⟩, rfl, hqa, g2.symm⟩
    obtain ⟨t, rfl, ht⟩ := g3
    have ht3 : H3 t = some (.tup [.int e.2.1, .int e.2.2]) := lk.keep _ _ ht (ne_of ht hd fun z => nomatch z)
    refine ⟨rfl, iteT (B := Z H3) ⟨_, rfl, _, rfl, _, rfl, d, _, rfl, gd, t, e.2.1, e.2.2, rfl, SqT.of ht3, fun r hr' => ⟨by show 2 ≤ sizeLine; decide, fun r2 hr2 => ?_⟩⟩⟩
    have s3 := same_new hr' (.tup [wordV e.2.2, .int e.2.1])
    have s4 := same_new hr2 (.tup [.ref qa, .ref r])
    exact hyes (by rw [ofL_at he]) _ _ (s3.trans s4) ⟨r2, rfl, e, he, qa, _, upd_same, (hqa.same s3).same s4, r, rfl, SqT.of (s4 _ _ upd_same)⟩
  · intro ys H3 s3 e3 r3
    rw [← hlk] at r3
    have r4 : Paired (fun e y => ∃ r, y = .ref r ∧ ∃ qa v, H3 r = some (.tup [.ref qa, v]) ∧ IsPr H3 qa e.1 ∧ RW K H3 v e.2) (m.filter fun _ => true) ys := chosen_whole (fun j c y hc ⟨r, hr, e, he, z⟩ => ⟨r, hr, by rw [hc] at he; cases he; exact z⟩) r3
    rw [List.filter_eq_self.mpr fun _ _ => rfl] at r4
    obtain ⟨ps, rfl, r5⟩ := paired_refs r4
    obtain ⟨kv2, g1, g2, g3⟩ := pairs_kvs (R := fun v b => RW K H3 v b) r5
    refine ⟨D, ps, kv2, rfl, SqL.of e3, g1, by rw [g3]; exact keys_nd hnd, fun p hp => ?_⟩
    have lk := (lk0.same s3).new hp (o := .dT kv2)
    have hpd : p ≠ d := (ne_of_none (lk0.same s3).at' hp).symm
    refine ⟨lk.at', q p _ ?_ (lk.back hd) ⟨kv2, by rw [upd_ne hpd]; exact upd_same, Rw.Paired.imp g2 fun e kv _ h => ⟨h.1, ?_⟩⟩⟩
    · cases e : H p with
      | none => rfl
      | some o => 
        have z := (lk0.same s3).keep p o e hpd
        rw [hp] at z
        cases z
    · obtain ⟨a, e1, h⟩ := h.2
      refine ⟨a, e1, ?_⟩
      exact sqT_put lk.at' (fun _ z => nomatch z) (fun _ _ z => nomatch z) (sqT_same (same_new hp (.dT kv2)) h)
end
end Rw
set_option Elab.async false
set_option linter.all false
set_option maxRecDepth 100000
set_option maxHeartbeats 8000000
namespace Rw
open PySem L2
abbrev sWay : Stmt := top 50
/-- marks of bounds are 0 or 1 -/
def Mk (m : List (Pr × Bd)) : Prop := ∀ e ∈ m, e.2.2 = 0 ∨ e.2.2 = 1
theorem RC.of {H : Hp} {v : V} {b : Bd} (h : RB H v b) (hs : b.2 = 0 ∨ b.2 = 1) : RC H v (some (codeB b)) := .inr ⟨_, rfl, by rw [bound_code hs]; exact h⟩
theorem look_in {β : Type} {m : List (Pr × β)} {q : Pr} {b : β} (h : look m q = some b) : (q, b) ∈ m := by
  unfold look at h
  cases e : m.find? fun e => decide (e.1 = q) with
  | none => rw [e] at h; cases h
  | some x =>
    rw [e] at h
    have h : x.2 = b := Option.some.inj h
    have h1 := List.mem_of_find?_eq_some e
    have h2 : x.1 = q := by
      have z := List.find?_some e
      exact of_decide_eq_true z
    have : x = (q, b) := by rw [← h, ← h2]
    rw [← this]
    exact h1
theorem DT.code {H : Hp} {d a : Addr} {m : List (Pr × Bd)} {x y : Str} (h : DT RB H d m) (hm : Mk m) (ha : IsPr H a (x, y)) : (codeM m x y = none ∧ DGet H d (.ref a) none) ∨ ∃ k v, codeM m x y = some k ∧ DGet H d (.ref a) (some v) ∧ RC H v (some k) := by
  obtain ⟨o, g, h⟩ := h.get ha
  rcases h with ⟨h1, rfl⟩ | ⟨b, v, h1, rfl, h3⟩
  · exact .inl ⟨by unfold codeM; rw [h1]; rfl, g⟩
  · exact .inr ⟨_, v, by unfold codeM; rw [h1]; rfl, g, RC.of h3 (hm _ (look_in h1))⟩
theorem tight_none (x : Code') : tightC x none = x := by cases x <;> rfl
theorem filter_len {L : List Str} (hn : L.Nodup) {x : Str} (hx : x ∈ L) : (L.filter fun y => decide (y ≠ x)).length + 1 = L.length := by
  induction L with
  | nil => cases hx
  | cons y L ih =>
    have hn' := List.nodup_cons.mp hn
    rw [List.filter_cons]
    by_cases e : y = x
    · subst e
      have e2 : (L.filter fun z => decide (z ≠ y)) = L := List.filter_eq_self.mpr fun z hz => decide_eq_true fun w => hn'.1 (w ▸ hz)
      rw [if_neg (by simp), e2, List.length_cons]
    · rw [if_pos (decide_eq_true e), List.length_cons, List.length_cons, ih hn'.2 ((List.mem_cons.mp hx).resolve_left fun w => e w.symm)]
theorem paired_eq {α β : Type} {f : α → β} : ∀ {xs : List α} {ys : List β}, Paired (fun x y => y = f x) xs ys → ys = xs.map f
  | _, _, .nil => rfl
  | _, _, .cons h t => by rw [List.map_cons, h, paired_eq t]
section
variable {P : Program} {w : World} {K : PySem.W.Frag} {mg : Str → Option Value} {base : Heap}
def spWay (K : PySem.W.Frag) (n : Nat) : Sp := fun vs H Q _ => ∃ (d l : Addr) (m : List (Pr × Bd)) (h g : Str) (L : List Str), vs = [.ref d, .str h, .str g, .ref l] ∧ DT RB H d m ∧ Mk m ∧ SqL K H l (L.map V.str) ∧ L.Nodup ∧ L.length < n ∧ L.length ≤ 100 ∧
  ∀ w H', Same H H' → RC H' w (wayC (codeM m) (L.length + 1) h g L) → Q w H'
def nWay : List Str := ["_law_bounds", "_law_here", "_law_goal", "_law_left", "_law_found", "_law_one_here", "_law_behind", "_law_other"]
theorem scWay : FnScope nWay ["_law_bounds", "_law_here", "_law_goal", "_law_left"] (defScope sWay) := ⟨rfl, rfl, rfl, by decide +kernel, rfl, by decide +kernel, by decide +kernel⟩
theorem ok_way {f fm ft : Addr} {fd fdm fdt : FuncData} (F : Fun K "_law_way" "_law_way" sWay f fd) (bS : Binds K fd ["_law_bounds", "_law_here", "_law_goal", "_law_left"] []) (kS : PySem.W.keepIn K (.ref f) = true) (mS : mg "_law_way" = some (.ref f))
    (GM : FnOk P w K mg base CX0 1 fm fdm ["_law_one_here", "_law_other"] (spMore K)) (bM : Binds K fdm ["_law_one_here", "_law_other"] []) (kM : PySem.W.keepIn K (.ref fm) = true) (mM : mg "_law_more" = some (.ref fm))
    (GT : FnOk P w K mg base CX0 1 ft fdt ["_law_one_here", "_law_other"] (spTight K)) (bT : Binds K fdt ["_law_one_here", "_law_other"] []) (kT : PySem.W.keepIn K (.ref ft) = true) (mT : mg "_law_tight" = some (.ref ft)) :
    ∀ n, FnOk P w K mg base CX0 (n + 1) f fd ["_law_bounds", "_law_here", "_law_goal", "_law_left"] (spWay K n)
  | 0 => by
    refine F.ok scWay (fun vs H Q E h => ?_) (fun cdv A outer s H vs Q E hr h => ?_)
    · obtain ⟨d, l, m, x, g, L, rfl, _⟩ := h
      rfl
    · obtain ⟨d, l, m, x, g, L, rfl, _, _, _, _, h, _⟩ := h
      exact absurd h (Nat.not_lt_zero _)
  | n + 1 => by
    have GS := ok_way F bS kS mS GM bM kM mM GT bT kT mT n
    refine F.ok scWay (fun vs H Q E h => ?_) (fun cdv A outer s H vs Q E hr h => ?_)
    · obtain ⟨d, l, m, x, g, L, rfl, _⟩ := h
      rfl
    obtain ⟨d, l, m, x, g, L, rfl, hD, hm, hS, hnd, hn, hL, q⟩ := h
    have hu := hu_of hr
    have hr1 : Room 1 _ := hr.mono (Nat.succ_le_succ (Nat.zero_le n))
    refine ⟨_, pss_cons (ps_set (i := 4) scWay.nd rfl (Or.inl rfl) (pe_dget1 hu (pv 0) (pe_tup (pa_cons (pv 1) (pa_cons (pv 2) pa_nil))) ⟨rfl, rfl, rfl, rfl⟩))
      (pss_cons (ps_for PassesOwn.never rfl (pi_list (pv 3)) (pg_name (i := 5) scWay.nd rfl (Or.inr rfl))
        (pss_one (ps_if (pt_cmp (pc_din hu (pe_tup (pa_cons (pv 1) (pa_cons (pv 5) pa_nil))) (pv 0)))
          (pss_cons (ps_set (i := 6) scWay.nd rfl (Or.inl rfl) (pe_call GS hr rfl mS kS bS .nil pass0 (pa_cons (pv 0) (pa_cons (pv 5) (pa_cons (pv 2) (pa_cons
            (pe_lc (own := [("_law_other", 7)]) (g := gName 7) rfl scWay.nd (pi_list (pv 3)) (blkOk_by (N := nWay) (sc := defScope sWay) (by decide +kernel)) (fun _ _ _ _ _ => pg_name (i := 7) scWay.nd rfl (Or.inl rfl)) (fun _ _ _ _ _ => pts_one (pt_cmpR op_ne (pv 7) (pv 5) (nomark _))) (fun _ _ _ _ _ => pv 7)) pa_nil))))))
          (pss_one (ps_set (i := 4) scWay.nd rfl (Or.inl rfl) (pe_call GT hr1 rfl mT kT bT .nil pass0 (pa_cons (pv 4) (pa_cons (pe_call GM hr1 rfl mM kM bM .nil pass0 (pa_cons (pe_dget hu (pv 0) (pe_tup (pa_cons (pv 1) (pa_cons (pv 5) pa_nil))) (fun _ _ => rfl)) (pa_cons (pv 6) pa_nil))) pa_nil))))))
          pss_nil)))
      (pss_one (ps_ret (pv 4)))), ?_⟩
    have e0 : (L.map V.str).length = L.length := List.length_map _
    obtain ⟨kvs, hkd, hpr⟩ := id hD
    refine ⟨_, rfl, d, rfl, .inr ⟨kvs, .inl hkd⟩, _, rfl, _, rfl, (by show 2 ≤ sizeLine; decide), fun p hp => ?_⟩
    have s1 := same_new hp (.tup [.str x, .str g])
    have hD1 : DT RB (upd H p (.tup [.str x, .str g])) d m := hD.mono (fun o e => s1 _ _ e) fun v b h => h.mono fun a xs e => s1 _ _ e
    obtain ⟨o, ho, hro⟩ : ∃ o, DGet (upd H p (.tup [.str x, .str g])) d (.ref p) o ∧ RC (upd H p (.tup [.str x, .str g])) (o.getD .non) (codeM m x g) := by
      rcases hD1.code hm (show IsPr _ p (x, g) from upd_same) with ⟨e, z⟩ | ⟨k, v, e, z, r⟩
      · exact ⟨none, z, .inl ⟨e, rfl⟩⟩
      · exact ⟨some v, z, by rw [e]; exact r⟩
    refine ⟨o, ho, ?_⟩
    generalize upd H p (.tup [.str x, .str g]) = H1 at s1 hD1 hro ho
    refine ⟨_, rfl, l, rfl, ⟨_, s1.seq hS⟩, for_list (xs := L.map V.str) (fun i σ' H' => ∃ (v : V) (u5 u6 u7 : Option V), σ' = [some (.ref d), some (.str x), some (.str g), some (.ref l), some v, u5, u6, u7] ∧ Same H1 H' ∧
      RC H' v ((L.take i).foldl (fun acc y => tightC acc (sumC (codeM m x y) (wayC (codeM m) L.length y g (L.filter fun z => decide (z ≠ y))))) (codeM m x g))) ?_ ?_ ?_ ?_⟩
    · exact ⟨_, none, none, none, rfl, Same.refl _, hro⟩
    · rintro i σ' H' _ ⟨v, u5, u6, u7, rfl, s2, _⟩
      exact s2.seq (s1.seq hS)
    · rintro i y σ' H' hx ⟨v, u5, u6, u7, rfl, s2, hv⟩
      obtain ⟨c, hc, rfl⟩ := at_map hx
      have hcm : c ∈ L := List.mem_of_getElem? hc
      have hfl := filter_len hnd hcm
      refine ⟨_, rfl, _, rfl, (by show 2 ≤ sizeLine; decide), fun p2 hp2 => ⟨_, rfl, ?_⟩⟩
      have s3 := same_new hp2 (.tup [.str x, .str c])
      have s13 := s2.trans s3
      have hD3 : DT RB (upd H' p2 (.tup [.str x, .str c])) d m := hD1.mono (fun o e => s13 _ _ e) fun v b h => h.mono fun a xs e => s13 _ _ e
      have hp3 : IsPr (upd H' p2 (.tup [.str x, .str c])) p2 (x, c) := upd_same
      have hv3 := hv.same s3
      generalize upd H' p2 (.tup [.str x, .str c]) = H3 at s3 s13 hD3 hp3 hv3
      rw [take_snoc hc, List.foldl_append, List.foldl_cons, List.foldl_nil]
      rcases hD3.code hm hp3 with ⟨e, z⟩ | ⟨k, b, e, z, r⟩
      · refine ⟨d, none, rfl, z, false, rfl, (if_neg (by decide)).mpr ?_⟩
        refine ⟨v, _, _, _, rfl, s13, ?_⟩
        rw [e]
        show RC H3 v (tightC _ (sumC none _))
        rw [show ∀ t, sumC none t = none from fun _ => rfl, tight_none]
        exact hv3
      · refine ⟨d, some b, rfl, z, true, rfl, (if_pos rfl).mpr ?_⟩
        refine ⟨_, rfl, _, rfl, _, rfl, _, rfl, l, rfl, ⟨_, s13.seq (s1.seq hS)⟩, fun D hD => ?_⟩
        have hs3 := s13.seq (s1.seq hS)
        refine lc_map (S := Same) (walk_list (K := K) (a := l) (xs := L.map V.str)) (stp_same D) hD (by omega) (ofL L fun z => decide (z ≠ c)) (fun j H y => ∃ z, L[j]? = some z ∧ y = .str z) ?_ ?_ ?_ ?_ ?_
        · rintro j H4 H5 y s4 z
          exact z
        · rintro j H4 y acc o hacc z
          exact z
        · intro H4 s4
          exact s4.seq hs3
        · rintro j y H4 H5 acc N Z hj s4 hacc ⟨rfl, hy⟩ hyes hno
          obtain ⟨z, hz, rfl⟩ := at_map hy
          refine ⟨rfl, _, rfl, _, rfl, rfl, _, rfl, ?_⟩
          refine ite2 (fun h => ?_) (fun h => ?_)
          · have hne : z ≠ c := fun e => by
              rw [e] at h
              simp at h
            exact ⟨_, rfl, hyes (by rw [ofL_at hz]; exact decide_eq_true hne) _ _ (Same.refl _) ⟨z, hz, rfl⟩⟩
          · have he : z = c := by
              by_cases e : z = c
              · exact e
              · exact absurd (show (!decide (V.str z = V.str c)) = true by simp [e]) h
            exact hno (by rw [ofL_at hz]; exact decide_eq_false (fun z => z he)) _ (Same.refl _)
        · intro ys H4 s4 e4 r4
          rw [e0] at r4
          have r5 : Paired (fun z y => y = V.str z) (L.filter fun z => decide (z ≠ c)) ys := chosen_whole (fun j z y hz ⟨z', hz', e⟩ => by rw [hz] at hz'; cases hz'; exact e) r4
          have ey := paired_eq r5
          subst ey
          have s14 := s13.trans s4
          refine ⟨d, D, m, c, g, _, rfl, hD3.mono (fun o e => s4 _ _ e) fun v b h => h.mono fun a xs e => s4 _ _ e, hm, SqL.of e4, hnd.filter _, by omega, by omega, fun b2 H5 s5 r5 => ?_⟩
          rw [hfl] at r5
          have s15 := s14.trans s5
          have s35 := s4.trans s5
          have hD5 : DT RB H5 d m := hD1.mono (fun o e => s15 _ _ e) fun v b h => h.mono fun a xs e => s15 _ _ e
          refine ⟨_, rfl, _, rfl, _, rfl, _, rfl, (by show 2 ≤ sizeLine; decide), fun p3 hp3 => ?_⟩
          have s6 := same_new hp3 (.tup [.str x, .str c])
          have hD6 : DT RB (upd H5 p3 (.tup [.str x, .str c])) d m := hD5.mono (fun o e => s6 _ _ e) fun v b h => h.mono fun a xs e => s6 _ _ e
          have hp6 : IsPr (upd H5 p3 (.tup [.str x, .str c])) p3 (x, c) := upd_same
          have hv6 := (hv3.same s35).same s6
          have r6 := r5.same s6
          generalize upd H5 p3 (.tup [.str x, .str c]) = H6 at s6 hD6 hp6 hv6 r6
          rcases hD6.code hm hp6 with ⟨e', _⟩ | ⟨k', b', e', z', r'⟩
          · rw [e] at e'
            cases e'
          refine ⟨d, b', rfl, z', _, rfl, b', b2, _, _, rfl, r', r6, fun w1 H7 s7 r7 => ?_⟩
          refine ⟨v, w1, _, _, rfl, hv6.same s7, r7, fun w2 H8 s8 r8 => ?_⟩
          refine ⟨w2, _, _, _, rfl, ((s15.trans s6).trans s7).trans s8, ?_⟩
          rw [e']
          exact r8
    · rintro σ' H' ⟨v, u5, u6, u7, rfl, s2, hv⟩
      refine ⟨_, rfl, q _ _ (s1.trans s2) ?_⟩
      rw [wayC]
      rw [e0, List.take_length] at hv
      exact hv
end
end Rw
set_option Elab.async false
set_option linter.all false
set_option maxRecDepth 100000
set_option maxHeartbeats 8000000
namespace Rw
open PySem L2
abbrev sWays : Stmt := top 51
theorem codeM_none {m : List (Pr × Bd)} {x y : Str} (h : look m (x, y) = none) : codeM m x y = none := by unfold codeM; rw [h]; rfl
theorem codeM_some {m : List (Pr × Bd)} {x y : Str} {b : Bd} (h : look m (x, y) = some b) : codeM m x y = some (codeB b) := by unfold codeM; rw [h]; rfl
/-- what the law's ways tell, for some pairs in order -/
def waysL (c : Str → Str → Code') (ss : List Str) (ps : List Pr) : List (Pr × Bd) := ps.flatMap fun p => match W c ss p.1 p.2 with | some k => [(p, boundC k)] | none => []
theorem waysL_app {c : Str → Str → Code'} {ss : List Str} {ps qs : List Pr} : waysL c ss (ps ++ qs) = waysL c ss ps ++ waysL c ss qs := by unfold waysL; rw [List.flatMap_append]
theorem waysL_key {c : Str → Str → Code'} {ss : List Str} {ps : List Pr} {e : Pr × Bd} (h : e ∈ waysL c ss ps) : e.1 ∈ ps ∧ ∃ k, W c ss e.1.1 e.1.2 = some k ∧ e.2 = boundC k := by
  unfold waysL at h
  obtain ⟨p, hp, h⟩ := List.mem_flatMap.mp h
  cases e' : W c ss p.1 p.2 with
  | none => rw [e'] at h; cases h
  | some k =>
    rw [e'] at h
    cases List.mem_singleton.mp h
    exact ⟨hp, k, e', rfl⟩
theorem waysL_mk {c : Str → Str → Code'} {ss : List Str} {ps : List Pr} : Mk (waysL c ss ps) := fun e h => by
  obtain ⟨_, k, _, e2⟩ := waysL_key h
  rw [e2]
  exact boundC_s k
theorem waysL_in {c : Str → Str → Code'} {ss : List Str} {ps : List Pr} {p : Pr} {k : Int} (h : p ∈ ps) (e : W c ss p.1 p.2 = some k) : (p, boundC k) ∈ waysL c ss ps := by
  unfold waysL
  exact List.mem_flatMap.mpr ⟨p, h, by rw [e]; exact List.mem_singleton.mpr rfl⟩
theorem waysL_len {c : Str → Str → Code'} {ss : List Str} : ∀ {ps : List Pr}, (waysL c ss ps).length ≤ ps.length
  | [] => Nat.le_refl _
  | p :: ps => by
    have ih := waysL_len (c := c) (ss := ss) (ps := ps)
    have e : waysL c ss (p :: ps) = waysL c ss [p] ++ waysL c ss ps := waysL_app (ps := [p])
    have h1 : (waysL c ss [p]).length ≤ 1 := by
      unfold waysL
      rw [List.flatMap_cons, List.flatMap_nil, List.append_nil]
      split
      · exact Nat.le_refl _
      · exact Nat.zero_le _
    rw [e, List.length_append, List.length_cons]
    omega
theorem waysL_nd {c : Str → Str → Code'} {ss : List Str} : ∀ {ps : List Pr}, ps.Nodup → ((waysL c ss ps).map (·.1)).Nodup
  | [], _ => List.nodup_nil
  | p :: ps, h => by
    have h' := List.nodup_cons.mp h
    have ih := waysL_nd (c := c) (ss := ss) h'.2
    have e : waysL c ss (p :: ps) = waysL c ss [p] ++ waysL c ss ps := waysL_app (ps := [p])
    rw [e]
    unfold waysL at ih ⊢
    rw [List.flatMap_cons, List.flatMap_nil, List.append_nil]
    cases e' : W c ss p.1 p.2 with
    | none => exact ih
    | some k =>
      refine List.nodup_cons.mpr ⟨fun z => ?_, ih⟩
      obtain ⟨x, hx, ex⟩ := List.mem_map.mp z
      have := (waysL_key (c := c) (ss := ss) (ps := ps) hx).1
      have ex : x.1 = p := ex
      rw [ex] at this
      exact h'.1 this
theorem waysL_code {c : Str → Str → Code'} {ss : List Str} {ps : List Pr} (hn : ps.Nodup) (a b : Str) : codeM (waysL c ss ps) a b = if (a, b) ∈ ps then W c ss a b else none := by
  unfold codeM
  by_cases h : (a, b) ∈ ps
  · rw [if_pos h]
    cases e : W c ss a b with
    | none =>
      rw [look_none fun x hx z => ?_]
      · rfl
      · obtain ⟨_, k, e1, _⟩ := waysL_key hx
        rw [z, e] at e1
        cases e1
    | some k =>
      have z := look_of (waysL_nd hn) (waysL_in (ps := ps) (p := (a, b)) h e)
      have z : look (waysL c ss ps) (a, b) = some (boundC k) := z
      rw [z]
      exact congrArg some (code_bound k)
  · rw [if_neg h, look_none fun x hx z => ?_]
    · rfl
    · have z2 := (waysL_key hx).1
      rw [z] at z2
      exact h z2
theorem prsOf_iff {ns : List Str} {a b : Str} : (a, b) ∈ prsOf ns ↔ a ∈ ns ∧ b ∈ ns ∧ a ≠ b := by
  refine ⟨fun h => ?_, fun ⟨h1, h2, h3⟩ => ?_⟩
  · obtain ⟨h1, h2, h3⟩ := prsOf_mem h
    exact ⟨h1, h2, fun e => h3 e.symm⟩
  · exact List.mem_flatMap.mpr ⟨a, h1, List.mem_map.mpr ⟨b, List.mem_filter.mpr ⟨h2, decide_eq_true fun e => h3 e.symm⟩, rfl⟩⟩
section
variable {P : Program} {w : World} {K : PySem.W.Frag} {mg : Str → Option Value} {base : Heap}
def spWays (K : PySem.W.Frag) : Sp := fun vs H Q _ => ∃ (d l : Addr) (m : List (Pr × Bd)) (ss : List Str), vs = [.ref d, .ref l] ∧ DT RB H d m ∧ Mk m ∧ SqL K H l (ss.map V.str) ∧ ss.Nodup ∧ ss.length ≤ 5 ∧
  (LawBad (codeM m) ss → ∀ H', Same H H' → Q .non H') ∧ (¬ LawBad (codeM m) ss → ∀ r H', H r = none → Same H H' → DT RB H' r (waysL (codeM m) ss (prsOf ss)) → Q (.ref r) H')
def nWays : List Str := ["_law_bounds", "_law_ones", "_law_found", "_law_one_here", "_law_other", "_law_way_here", "_law_x"]
theorem scWays : FnScope nWays ["_law_bounds", "_law_ones"] (defScope sWays) := ⟨rfl, rfl, rfl, by decide +kernel, rfl, by decide +kernel, by decide +kernel⟩
theorem ok_ways {f fw fm fb : Addr} {fd fdw fdm fdb : FuncData} (F : Fun K "_law_ways" "_law_ways" sWays f fd)
    (GW : FnOk P w K mg base CX0 7 fw fdw ["_law_bounds", "_law_here", "_law_goal", "_law_left"] (spWay K 6)) (bW : Binds K fdw ["_law_bounds", "_law_here", "_law_goal", "_law_left"] []) (kW : PySem.W.keepIn K (.ref fw) = true) (mW : mg "_law_way" = some (.ref fw))
    (GM : FnOk P w K mg base CX0 1 fm fdm ["_law_one_here", "_law_other"] (spMore K)) (bM : Binds K fdm ["_law_one_here", "_law_other"] []) (kM : PySem.W.keepIn K (.ref fm) = true) (mM : mg "_law_more" = some (.ref fm))
    (GB : FnOk P w K mg base CX0 1 fb fdb ["_law_bound"] (spBars K)) (bB : Binds K fdb ["_law_bound"] []) (kB : PySem.W.keepIn K (.ref fb) = true) (mB : mg "_law_bars" = some (.ref fb)) :
    FnOk P w K mg base CX0 8 f fd ["_law_bounds", "_law_ones"] (spWays K) := by
  refine F.ok scWays (fun vs H Q E h => ?_) (fun cdv A outer s H vs Q E hr h => ?_)
  · obtain ⟨d, l, m, ss, rfl, _⟩ := h
    rfl
  obtain ⟨d, l, m, ss, rfl, hD, hm, hS, hnd, h5, qb, qg⟩ := h
  have hu := hu_of hr
  have hr1 : Room 1 _ := hr.mono (by decide)
  refine ⟨_, pss_cons (ps_set (i := 2) scWays.nd rfl (Or.inl rfl) pe_dnewT)
    (pss_cons (ps_for PassesOwn.never rfl (pi_list (pv 1)) (pg_name (i := 3) scWays.nd rfl (Or.inr rfl))
      (pss_one (ps_for PassesOwn.never rfl (pi_list (pv 1)) (pg_name (i := 4) scWays.nd rfl (Or.inr rfl))
        (pss_one (ps_if (pt_cmpR op_ne (pv 3) (pv 4) (nomark _))
          (pss_cons (ps_set (i := 5) scWays.nd rfl (Or.inl rfl) (pe_call GW hr rfl mW kW bW .nil pass0 (pa_cons (pv 0) (pa_cons (pv 3) (pa_cons (pv 4) (pa_cons
            (pe_lc (own := [("_law_x", 6)]) (g := gName 6) (tt := tTest (tOp (rIn K true) (tVar 6) (tTup (tCons (tVar 3) (tCons (tVar 4) tNil))))) rfl scWays.nd (pi_list (pv 1)) (blkOk_by (N := nWays) (sc := defScope sWays) (by decide +kernel)) (fun _ _ _ _ _ => pg_name (i := 6) scWays.nd rfl (Or.inl rfl)) (fun _ _ _ _ _ => pts_one (pt_cmpR op_notIn_seq (pv 6) (pe_tup (pa_cons (pv 3) (pa_cons (pv 4) pa_nil))) rfl)) (fun _ _ _ _ _ => pv 6)) pa_nil))))))
          (pss_one (ps_if (pt_cmpR op_notN (pv 5) pe_non (nomark _)) (pss_one (ps_dput hu (pv 2) (pe_tup (pa_cons (pv 3) (pa_cons (pv 4) pa_nil))) (pv 5) rfl)) pss_nil)))
          pss_nil)))))
    (pss_cons (ps_lock (ps_for PassesOwn.never rfl (pi_keys (pv 2)) (pg_tup rfl (pgs_cons (pg_name (i := 3) scWays.nd rfl (Or.inr rfl)) (pgs_cons (pg_name (i := 4) scWays.nd rfl (Or.inr rfl)) pgs_nil)))
      (pss_one (ps_if (pt_val (pe_call GB hr1 rfl mB kB bB .nil pass0 (pa_cons (pe_call GM hr1 rfl mM kM bM .nil pass0 (pa_cons (pe_dget hu (pv 2) (pe_tup (pa_cons (pv 3) (pa_cons (pv 4) pa_nil))) (fun _ _ => rfl)) (pa_cons
          (pe_dget1 hu (pv 2) (pe_tup (pa_cons (pv 4) (pa_cons (pv 3) pa_nil))) ⟨rfl, rfl, rfl, rfl⟩) pa_nil))) pa_nil))) (pss_one (ps_ret pe_non)) pss_nil))))
    (pss_one (ps_ret (pv 2))))), ?_⟩
  have e0 : (ss.map V.str).length = ss.length := List.length_map _
  have sz : ∀ {n : Nat}, n ≤ 1000 → n < sizeLine := fun h => small1000 h
  have pl25 : (prsOf ss).length ≤ 25 := Nat.le_trans (prsOf_len ss ss) (Nat.mul_le_mul h5 h5)
  intro r hr0
  have s1 := same_new hr0 (.dT [])
  have hr1' : (upd H r (.dT [])) r = some (.dT []) := upd_same
  generalize upd H r (.dT []) = H1 at s1 hr1'
  have hS1 := s1.seq hS
  have hD1 : DT RB H1 d m := hD.mono (fun o e => s1 _ _ e) fun v b h => h.mono fun a xs e => s1 _ _ e
  have hrn : r ≠ d := by
    obtain ⟨kvs, e, _⟩ := hD
    exact (ne_of_none e hr0).symm
  refine ⟨_, rfl, l, rfl, ⟨_, hS1⟩, for_list (xs := ss.map V.str) (fun i σ' H' => ∃ (u3 u4 u5 u6 : Option V), σ' = [some (.ref d), some (.ref l), some (.ref r), u3, u4, u5, u6] ∧ Same H H' ∧ DT RB H' r (waysL (codeM m) ss (prsOf' ss (ss.take i)))) ?_ ?_ ?_ ?_⟩
  · exact ⟨none, none, none, none, rfl, s1, [], hr1', .nil⟩
  · rintro i σ' H' _ ⟨u3, u4, u5, u6, rfl, s2, _⟩
    exact s2.seq hS
  · rintro i y σ' H' hx ⟨u3, u4, u5, u6, rfl, s2, hR⟩
    obtain ⟨a, ha, rfl⟩ := at_map hx
    have ham : a ∈ ss := List.mem_of_getElem? ha
    refine ⟨_, rfl, l, rfl, ⟨_, s2.seq hS⟩, for_list (xs := ss.map V.str) (fun j σ' H' => ∃ (u4 u5 u6 : Option V), σ' = [some (.ref d), some (.ref l), some (.ref r), some (.str a), u4, u5, u6] ∧ Same H H' ∧
      DT RB H' r (waysL (codeM m) ss (prsOf' ss (ss.take i) ++ ((ss.take j).filter fun b => decide (b ≠ a)).map fun b => (a, b)))) ?_ ?_ ?_ ?_⟩
    · exact ⟨u4, u5, u6, rfl, s2, by rw [List.take_zero, List.filter_nil, List.map_nil, List.append_nil]; exact hR⟩
    · rintro j σ' H' _ ⟨u4, u5, u6, rfl, s2, _⟩
      exact s2.seq hS
    · rintro j y σ' H2 hx ⟨u4, u5, u6, rfl, s3, hR3⟩
      obtain ⟨b, hb, rfl⟩ := at_map hx
      have hbm : b ∈ ss := List.mem_of_getElem? hb
      rw [take_snoc hb, List.filter_append, List.map_append, ← List.append_assoc, waysL_app]
      refine ⟨_, rfl, _, rfl, rfl, _, rfl, ?_⟩
      refine ite2 (fun h => ?_) (fun h => ?_)
      · have hne : a ≠ b := fun e => by
          rw [e] at h
          simp at h
        have hf : [b].filter (fun x => decide (x ≠ a)) = [b] := by
          rw [List.filter_cons, if_pos (decide_eq_true (show b ≠ a from fun e => hne e.symm)), List.filter_nil]
        rw [hf]
        refine ⟨_, rfl, _, rfl, _, rfl, _, rfl, l, rfl, ⟨_, s3.seq hS⟩, fun D hD' => ?_⟩
        refine lc_map (S := Same) (walk_list (K := K) (a := l) (xs := ss.map V.str)) (stp_same D) hD' (by omega) (ofL ss fun x => decide (x ≠ a ∧ x ≠ b)) (fun j H y => ∃ z, ss[j]? = some z ∧ y = .str z) ?_ ?_ ?_ ?_ ?_
        · rintro j H4 H5 y s4 z
          exact z
        · rintro j H4 y acc o hacc z
          exact z
        · intro H4 s4
          exact s4.seq (s3.seq hS)
        · rintro j y H4 H5 acc N Z hj s4 hacc ⟨rfl, hy⟩ hyes hno
          obtain ⟨z, hz, rfl⟩ := at_map hy
          refine ⟨rfl, _, rfl, _, rfl, _, rfl, (by show 2 ≤ sizeLine; decide), fun p hp => ⟨p, [.str a, .str b], rfl, .inr (SqT.of upd_same), rfl, rfl, _, rfl, ?_⟩⟩
          have e2 : (if true = true then !inV (.str z) [.str a, .str b] else inV (.str z) [.str a, .str b]) = decide (z ≠ a ∧ z ≠ b) := by
            rw [if_pos rfl, show [V.str a, V.str b] = [a, b].map V.str from rfl, inV_str, Bool.eq_iff_iff]
            simp
          rw [e2]
          have s5 := same_new hp (.tup [.str a, .str b])
          refine ite2 (fun h => ?_) (fun h => ?_)
          · exact ⟨_, rfl, hyes (by rw [ofL_at hz]; exact h) _ _ s5 ⟨z, hz, rfl⟩⟩
          · exact hno (by rw [ofL_at hz]; exact Bool.eq_false_iff.mpr h) _ s5
        · intro ys H4 s4 e4 r4
          rw [e0] at r4
          have r5 : Paired (fun z y => y = V.str z) (ss.filter fun x => decide (x ≠ a ∧ x ≠ b)) ys := chosen_whole (fun j z y hz ⟨z', hz', e⟩ => by rw [hz] at hz'; cases hz'; exact e) r4
          have ey := paired_eq r5
          subst ey
          have s14 := s3.trans s4
          have hle := List.length_filter_le (fun x => decide (x ≠ a ∧ x ≠ b)) ss
          refine ⟨d, D, m, a, b, _, rfl, hD.mono (fun o e => s14 _ _ e) fun v b h => h.mono fun a xs e => s14 _ _ e, hm, SqL.of e4, hnd.filter _, by omega, by omega, fun v H5 s5 r5 => ?_⟩
          have r5 : RC H5 v (W (codeM m) ss a b) := r5
          have hR5 : DT RB H5 r (waysL (codeM m) ss (prsOf' ss (ss.take i) ++ ((ss.take j).filter fun b => decide (b ≠ a)).map fun b => (a, b))) := hR3.mono (fun o e => s5 _ _ (s4 _ _ e)) fun v b h => h.mono fun a xs e => s5 _ _ (s4 _ _ e)
          have s15 := s14.trans s5
          refine ⟨_, rfl, rfl, _, rfl, ?_⟩
          rcases r5 with ⟨e, rfl⟩ | ⟨k, e, t, rfl, ht⟩
          · refine (if_neg (by decide)).mpr ⟨_, _, _, rfl, s15, ?_⟩
            have ez : waysL (codeM m) ss ([b].map fun b => (a, b)) = [] := by
              unfold waysL
              rw [List.map_cons, List.map_nil, List.flatMap_cons, List.flatMap_nil, e]
              rfl
            rw [ez, List.append_nil]
            exact hR5
          · refine (if_pos rfl).mpr ⟨_, rfl, _, rfl, _, rfl, _, rfl, (by show 2 ≤ sizeLine; decide), fun p hp => ?_⟩
            have hIp : IsPr (upd H5 p (.tup [.str a, .str b])) p (a, b) := upd_same
            have s6 := same_new hp (.tup [.str a, .str b])
            have hR6 := hR5.mono (fun o e => s6 _ _ e) fun v b h => h.mono (fun a xs e => s6 _ _ e)
            have abn : (a, b) ∉ prsOf' ss (ss.take i) ++ ((ss.take j).filter fun b => decide (b ≠ a)).map fun b => (a, b) := fun z => by
              rcases List.mem_append.mp z with z | z
              · exact not_before hnd ha (prsOf_mem z).1
              · obtain ⟨x, hx, ex⟩ := List.mem_map.mp z
                have ex : x = b := congrArg (·.2) ex
                rw [ex] at hx
                exact not_before hnd hb (List.mem_filter.mp hx).1
            have fresh : look (waysL (codeM m) ss (prsOf' ss (ss.take i) ++ ((ss.take j).filter fun b => decide (b ≠ a)).map fun b => (a, b))) (a, b) = none := look_none fun e he z => abn (z ▸ (waysL_key he).1)
            have hle2 : (waysL (codeM m) ss (prsOf' ss (ss.take i) ++ ((ss.take j).filter fun b => decide (b ≠ a)).map fun b => (a, b))).length ≤ 1000 := by
              refine Nat.le_trans waysL_len ?_
              rw [List.length_append, List.length_map]
              have z1 := prsOf_len ss (ss.take i)
              have z2 := List.length_filter_le (fun b => decide (b ≠ a)) (ss.take j)
              rw [List.length_take] at z1 z2
              have z3 : min i ss.length * ss.length ≤ 5 * 5 := Nat.mul_le_mul (by omega) h5
              omega
            obtain ⟨o, dp, dt⟩ := hR6.put hIp fresh (sz hle2) (b := boundC k) (show RB _ (.ref t) (boundC k) from ⟨t, rfl, s6 _ _ ht⟩) fun o kvs v b e h => h.mono fun a xs e2 => by rw [upd_ne (ne_of e2 e fun z => nomatch z)]; exact e2
            refine ⟨r, _, rfl, dp, _, _, _, rfl, fun x ox ex => ?_, ?_⟩
            · rw [upd_ne (ne_of_none ex hr0)]
              exact s6 _ _ (s15 _ _ ex)
            · have ez : waysL (codeM m) ss ([b].map fun b => (a, b)) = [((a, b), boundC k)] := by
                unfold waysL
                rw [List.map_cons, List.map_nil, List.flatMap_cons, List.flatMap_nil, e]
                rfl
              rw [ez]
              exact dt
      · have he : b = a := by
          by_cases e : a = b
          · exact e.symm
          · exact absurd (show (!decide (V.str a = V.str b)) = true by simp [e]) h
        subst he
        refine ⟨_, _, _, rfl, s3, ?_⟩
        have hf : [b].filter (fun x => decide (x ≠ b)) = [] := by
          rw [List.filter_cons, if_neg (by simp), List.filter_nil]
        rw [hf]
        show DT RB H2 r (_ ++ [])
        rw [List.append_nil]
        exact hR3
    · rintro σ' H2 ⟨u4, u5, u6, rfl, s3, hR3⟩
      refine ⟨_, _, _, _, rfl, s3, ?_⟩
      rw [e0, List.take_length] at hR3
      rw [take_snoc ha]
      have e1 : prsOf' ss (ss.take i ++ [a]) = prsOf' ss (ss.take i) ++ (ss.filter fun b => decide (b ≠ a)).map fun b => (a, b) := by
        unfold prsOf'
        rw [List.flatMap_append, List.flatMap_cons, List.flatMap_nil, List.append_nil]
      rw [e1]
      exact hR3
  rintro σ' H2 ⟨u3, u4, u5, u6, rfl, s2, hR⟩
  rw [e0, List.take_length] at hR
  have hprn := prsOf_nd hnd hnd
  obtain ⟨kvs, hkd, hpr⟩ := hR
  have hML : (waysL (codeM m) ss (prsOf ss)).length = kvs.length := Paired.length hpr
  refine ⟨r, .dT kvs, hkd, True.intro, fun od => ?_⟩
  have lk0 : Lk H2 (upd H2 r (.frz od (.dT kvs))) r od (.dT kvs) := Lk.first
  have hat : ∀ (H' : Hp) (a' : Addr) (x y : Str), Lk H2 H' r od (.dT kvs) → IsPr H' a' (x, y) → ∃ o, DGet H' r (.ref a') o ∧ RC H' (o.getD .non) (codeM (waysL (codeM m) ss (prsOf ss)) x y) ∧ (codeM (waysL (codeM m) ss (prsOf ss)) x y ≠ none → ∃ v, o = some v) := fun H' a' x y lk ha => by
    refine ⟨valV kvs (key2 (x, y)), .inr ⟨kvs, key2 (x, y), a', .inr ⟨od, lk.at'⟩, rfl, ha, rfl⟩, ?_⟩
    rcases pl_look (R := fun v b => RB H2 v b) (x, y) hpr with ⟨g1, g2⟩ | ⟨b, v, g1, g2, t, rfl, g3⟩
    · have e : codeM (waysL (codeM m) ss (prsOf ss)) x y = none := codeM_none g1
      rw [g2, e]
      exact ⟨.inl ⟨rfl, rfl⟩, fun z => absurd rfl z⟩
    · have e : codeM (waysL (codeM m) ss (prsOf ss)) x y = some (codeB b) := codeM_some g1
      rw [g2, e]
      exact ⟨RC.of ⟨t, rfl, lk.keep _ _ g3 (ne_of g3 hkd fun z => nomatch z)⟩ (waysL_mk _ (look_in g1)), fun _ => ⟨_, rfl⟩⟩
  refine ⟨_, rfl, r, od, rfl, .inr ⟨kvs, lk0.at', for_it walk_keysT (fun i σ' H' => ∃ (u3 u4 u5 u6 : Option V), σ' = [some (.ref d), some (.ref l), some (.ref r), u3, u4, u5, u6] ∧ Lk H2 H' r od (.dT kvs) ∧
    ∀ e ∈ (waysL (codeM m) ss (prsOf ss)).take i, badC (sumC (W (codeM m) ss e.1.1 e.1.2) (W (codeM m) ss e.1.2 e.1.1)) = false) ⟨_, _, _, _, rfl, lk0, fun e he => by rw [List.take_zero] at he; cases he⟩ ?_ ?_ ?_⟩⟩
  · rintro i σ' H' hi ⟨u3, u4, u5, u6, rfl, lk, _⟩
    exact lk.at'
  · rintro i x σ' H3 H4 hi ⟨u3, u4, u5, u6, rfl, lk, hb⟩ ⟨rfl, k, v, qa, hkv, rfl, hqa⟩
    obtain ⟨⟨⟨a, b⟩, bd⟩, he, hek, hev⟩ := paired_at hpr hkv
    have hek : k = key2 (a, b) := hek
    subst hek
    have hqa : IsPr H4 qa (a, b) := hqa
    have hem := List.mem_of_getElem? he
    obtain ⟨hpi, k, hk, _⟩ := waysL_key hem
    have hpi : (a, b) ∈ prsOf ss := hpi
    obtain ⟨ham, hbm, hab⟩ := prsOf_iff.mp hpi
    have hpj : (b, a) ∈ prsOf ss := prsOf_iff.mpr ⟨hbm, ham, hab.symm⟩
    have hk : W (codeM m) ss a b = some k := hk
    refine ⟨qa, _, rfl, SqT.of hqa, rfl, _, _, rfl, _, _, rfl, rfl, ?_⟩
    refine ⟨_, rfl, _, rfl, _, rfl, (by show 2 ≤ sizeLine; decide), fun p hp => ?_⟩
    have lk3 := lk.new hp (o := .tup [.str a, .str b])
    have hp3 : IsPr (upd H4 p (.tup [.str a, .str b])) p (a, b) := upd_same
    generalize upd H4 p (.tup [.str a, .str b]) = H5 at lk3 hp3
    obtain ⟨o, g1, g2, g3⟩ := hat H5 p a b lk3 hp3
    rw [waysL_code hprn, if_pos hpi] at g2 g3
    obtain ⟨v1, rfl⟩ := g3 (by rw [hk]; exact fun z => nomatch z)
    refine ⟨r, v1, rfl, g1, _, rfl, r, rfl, .inr ⟨kvs, .inr ⟨od, lk3.at'⟩⟩, _, rfl, _, rfl, (by show 2 ≤ sizeLine; decide), fun p2 hp2 => ?_⟩
    have lk4 := lk3.new hp2 (o := .tup [.str b, .str a])
    have hp4 : IsPr (upd H5 p2 (.tup [.str b, .str a])) p2 (b, a) := upd_same
    have g2' := g2.same (same_new hp2 (.tup [.str b, .str a]))
    generalize upd H5 p2 (.tup [.str b, .str a]) = H6 at lk4 hp4 g2'
    obtain ⟨o2, k1, k2, _⟩ := hat H6 p2 b a lk4 hp4
    rw [waysL_code hprn, if_pos hpj] at k2
    refine ⟨o2, k1, v1, _, _, _, rfl, g2', k2, fun w1 H7 s7 r7 => ⟨w1, _, rfl, r7, _, rfl, ?_⟩⟩
    have lk7 := lk4.same s7
    refine ite2 (fun h => ?_) (fun h => ?_)
    · exact ⟨lk7.at', qb ⟨a, b, ham, hbm, hab, h⟩ _ (s2.trans (lk7.back hkd))⟩
    · refine ⟨_, _, _, _, rfl, lk7, fun e he' => ?_⟩
      rw [take_snoc he] at he'
      rcases List.mem_append.mp he' with z | z
      · exact hb e z
      · cases List.mem_singleton.mp z
        exact Bool.eq_false_iff.mpr h
  · rintro σ' H3 ⟨u3, u4, u5, u6, rfl, lk, hb⟩
    refine ⟨lk.at', _, rfl, qg ?_ r _ hr0 (s2.trans (lk.back hkd)) ⟨kvs, upd_same, Rw.Paired.imp hpr fun e kv _ z => ⟨z.1, ?_⟩⟩⟩
    · rintro ⟨a, b, ham, hbm, hab, hbad⟩
      cases hw : W (codeM m) ss a b with
      | none =>
        rw [hw] at hbad
        exact Bool.noConfusion (show false = true from hbad)
      | some k =>
        have z := hb ((a, b), boundC k) (by rw [← hML, List.take_length]; exact waysL_in (p := (a, b)) (prsOf_iff.mpr ⟨ham, hbm, hab⟩) hw)
        have z : badC (sumC (W (codeM m) ss a b) (W (codeM m) ss b a)) = false := z
        rw [hbad] at z
        cases z
    · obtain ⟨t, e1, h⟩ := z.2
      exact ⟨t, e1, lk.back hkd _ _ h⟩
end
end Rw
set_option Elab.async false
set_option linter.all false
set_option maxRecDepth 100000
set_option maxHeartbeats 8000000
namespace Rw
open PySem L2
abbrev sHanded : Stmt := top 52
abbrev sTable : Stmt := top 53
/-- a bound as it is handed, apart from the pool -/
def RP (K : PySem.W.Frag) (p : Addr) : Hp → V → Bd → Prop := fun H v b => ∃ a, v = .ref a ∧ a ≠ p ∧ Seq K H a [wordV b.2, .int b.1]
theorem RP.ro {K : PySem.W.Frag} {p : Addr} {H : Hp} {v : V} {b : Bd} (h : RP K p H v b) : RO K H v (some b) := by
  obtain ⟨a, e, _, h⟩ := h
  exact .inr ⟨b, a, rfl, e, h⟩
theorem RP.but {K : PySem.W.Frag} {p : Addr} {H H' : Hp} {v : V} {b : Bd} (h : RP K p H v b) (s : But p H H') : RP K p H' v b := by
  obtain ⟨a, e, n, h⟩ := h
  exact ⟨a, e, n, h.but s n⟩
theorem RP.put {K : PySem.W.Frag} {p : Addr} {H : Hp} {d : Addr} {o : HO} {kvs : List (List Key × V)} {v : V} {b : Bd} (e : H d = some (.dT kvs)) (h : RP K p H v b) : RP K p (upd H d o) v b := by
  obtain ⟨a, e1, n, h⟩ := h
  refine ⟨a, e1, n, ?_⟩
  rcases h with ((h | ⟨z, h⟩) | h) | h
  · exact .inl (.inl (.inl (by rw [upd_ne (ne_of h e fun z => nomatch z)]; exact h)))
  · exact .inl (.inl (.inr ⟨z, by rw [upd_ne (ne_of h e fun z => nomatch z)]; exact h⟩))
  · exact .inl (.inr h)
  · exact .inr (sqT_put e (fun _ z => nomatch z) (fun _ _ z => nomatch z) h)
theorem keys_paired {β : Type} {R : V → β → Prop} {H : Hp} : ∀ {m : List (Pr × β)} {kvs : List (List Key × V)} {bs : List Addr}, Paired (fun e kv => kv.1 = key2 e.1 ∧ R kv.2 e.2) m kvs → Paired (fun (p : List Key × V) b => H b = some (.tup (p.1.map kV))) kvs bs → Paired (fun e b => IsPr H b e.1) m bs
  | _, _, _, .nil, .nil => .nil
  | _, _, _, .cons h t, .cons g u => .cons (by rw [h.1] at g; exact g) (keys_paired t u)
section
variable {P : Program} {w : World} {K : PySem.W.Frag} {mg : Str → Option Value} {base : Heap}
def spHanded (K : PySem.W.Frag) : Sp := fun vs H Q _ => ∃ (p d : Addr) (m : List (Pr × Bd)) (n : Nat), vs = [.ref p, .ref d] ∧ Pool H p n ∧ n + 2000 ≤ 1000000000 ∧ DT RB H d m ∧ (m.map (·.1)).Nodup ∧ m.length ≤ 1000 ∧
  ∀ (qs : List (Pr × Bd)) (r : Addr) (H' : Hp), qs.Perm m → H r = none → But p H H' → Pool H' p (n + 2000) → DT (RP K p) H' r qs → Q (.ref r) H'
def nHanded : List Str := ["_law_pool_here", "_law_bounds", "_law_found", "_law_pair", "_law_word_here", "_law_n"]
theorem scHanded : FnScope nHanded ["_law_pool_here", "_law_bounds"] (defScope sHanded) := ⟨rfl, rfl, rfl, by decide +kernel, rfl, by decide +kernel, by decide +kernel⟩
theorem ok_handed {f fm fw fo : Addr} {fd fdm fdw fdo : FuncData} (F : Fun K "_law_handed" "_law_handed" sHanded f fd)
    (GM : FnOk P w K mg base CX0 2 fm fdm ["_law_pool_here", "_law_things"] (spMixed K)) (bM : Binds K fdm ["_law_pool_here", "_law_things"] []) (kM : PySem.W.keepIn K (.ref fm) = true) (mM : mg "_law_mixed" = some (.ref fm))
    (GW : FnOk P w K mg base CX0 1 fw fdw ["_law_bound"] (spWord K)) (bW : Binds K fdw ["_law_bound"] []) (kW : PySem.W.keepIn K (.ref fw) = true) (mW : mg "_law_word" = some (.ref fw))
    (GO : FnOk P w K mg base CX0 2 fo fdo ["_law_pool_here", "_law_things"] (spOne K)) (bO : Binds K fdo ["_law_pool_here", "_law_things"] []) (kO : PySem.W.keepIn K (.ref fo) = true) (mO : mg "_law_one" = some (.ref fo))
    (mk : mg "list" = none) : FnOk P w K mg base CX0 3 f fd ["_law_pool_here", "_law_bounds"] (spHanded K) := by
  refine F.ok scHanded (fun vs H Q E h => ?_) (fun cdv A outer s H vs Q E hr h => ?_)
  · obtain ⟨p, d, m, n, rfl, _⟩ := h
    rfl
  obtain ⟨p, d, m, n, rfl, hP, hn, ⟨kvs, hd, hpr⟩, hnd, hml, q⟩ := h
  have hu := hu_of hr
  have hr1 : Room 1 _ := hr.mono (by decide)
  refine ⟨_, pss_cons (ps_set (i := 2) scHanded.nd rfl (Or.inl rfl) pe_dnewT)
    (pss_cons (ps_for PassesOwn.never rfl (pi_list (pe_call GM hr rfl mM kM bM .nil pass0 (pa_cons (pv 0) (pa_cons (pe_callTy (call_list_dT rfl) rfl mk PyProof.Rows.boot_list (pa_cons (pv 1) pa_nil)) pa_nil)))) (pg_name (i := 3) scHanded.nd rfl (Or.inl rfl))
      (pss_cons (ps_asg (pe_call GW hr1 rfl mW kW bW .nil pass0 (pa_cons (pe_dget hu (pv 1) (pv 3) (fun _ _ => rfl)) pa_nil)) (pg_tup rfl (pgs_cons (pg_name (i := 4) scHanded.nd rfl (Or.inl rfl)) (pgs_cons (pg_name (i := 5) scHanded.nd rfl (Or.inl rfl)) pgs_nil))))
      (pss_one (ps_dput hu (pv 2) (pv 3) (pe_call GO hr rfl mO kO bO .nil pass0 (pa_cons (pv 0) (pa_cons (pe_lst (pa_cons (pe_tup (pa_cons (pv 4) (pa_cons (pv 5) pa_nil))) (pa_cons (pe_lst (pa_cons (pv 4) (pa_cons (pv 5) pa_nil))) pa_nil))) pa_nil))) rfl))))
    (pss_one (ps_ret (pv 2)))), ?_⟩
  obtain ⟨pobj, hpo⟩ := hP.some
  have hdp : d ≠ p := ne_of hd hpo fun z => nomatch z
  intro r hr0
  have s1 := same_new hr0 (.dT [])
  have hrp : r ≠ p := hP.apart hr0
  have hrd : r ≠ d := (ne_of_none hd hr0).symm
  have hR1 : (upd H r (.dT [])) r = some (.dT []) := upd_same
  have hP1 := hP.new (o := .dT []) hr0
  have hd1 := s1 _ _ hd
  have hpr1 : Paired (fun e kv => kv.1 = key2 e.1 ∧ RB (upd H r (.dT [])) kv.2 e.2) m kvs := Rw.Paired.imp hpr fun e kv _ z => ⟨z.1, z.2.mono fun a xs e => s1 _ _ e⟩
  generalize upd H r (.dT []) = H1 at s1 hR1 hP1 hd1 hpr1
  refine ⟨_, rfl, _, rfl, d, kvs, rfl, .inl hd1, fun l bs hl hbs => ?_⟩
  have hbs : Paired (fun (p : List Key × V) b => H1 b = some (.tup (p.1.map kV))) kvs bs := hbs
  have tl := keys_paired (R := fun v b => RB H1 v b) hpr1 hbs
  have lb : bs.length = m.length := (Paired.length tl).symm
  have s2 := same_new hl (.lst (bs.map V.ref))
  have hP2 := hP1.new (o := .lst (bs.map V.ref)) hl
  have hlp : l ≠ p := hP1.apart hl
  refine ⟨p, l, bs.map V.ref, n, rfl, hP2, by rw [List.length_map]; omega, .inl (SqL.of upd_same), hlp, by rw [List.length_map]; omega, fun ys r2 H3 pm hr2 b3 hP3 er3 => ?_⟩
  rw [List.length_map] at hP3
  have b13 : But p H1 H3 := (But.of s2).trans b3
  have hr2p : r2 ≠ p := hP2.apart hr2
  have hR3 : H3 r = some (.dT []) := b13 _ _ hR1 hrp
  obtain ⟨cs, hcs, rfl⟩ := perm_map_inv pm
  obtain ⟨qs, hqs, tl2⟩ := perm_paired hcs tl
  have tk3 := b13.tk hP1
  have tl3 : Paired (fun e a => IsPr H3 a e.1) qs cs := Rw.Paired.imp tl2 fun e a _ h => tk3 _ _ h
  have hD3 : DT RB H3 d m := ⟨kvs, b13 _ _ hd1 hdp, Rw.Paired.imp hpr1 fun e kv _ z => ⟨z.1, z.2.mono tk3⟩⟩
  have hql : qs.length = m.length := hqs.length_eq
  have lc : cs.length = qs.length := (Paired.length tl3).symm
  have qnd : (qs.map (·.1)).Nodup := (hqs.map (·.1)).nodup_iff.mpr hnd
  have nr2 : r2 ≠ r := ne_of er3 hR3 fun z => nomatch z
  have bH3 : But p H H3 := (But.of s1).trans b13
  refine ⟨r2, rfl, ⟨_, SqL.of er3⟩, for_list (xs := cs.map V.ref) (fun i σ' H' => ∃ (u3 u4 u5 : Option V), σ' = [some (.ref p), some (.ref d), some (.ref r), u3, u4, u5] ∧ But2 p r H3 H' ∧ Pool H' p (n + bs.length + i) ∧ DT (RP K p) H' r (qs.take i)) ?_ ?_ ?_ ?_⟩
  · exact ⟨none, none, none, rfl, .refl, hP3, [], hR3, .nil⟩
  · rintro i σ' H' _ ⟨u3, u4, u5, rfl, hB, _⟩
    exact SqL.of (hB _ _ er3 hr2p nr2)
  · rintro i x σ' H' hx ⟨u3, u4, u5, rfl, hB, hPi, hD⟩
    obtain ⟨a, ha, rfl⟩ : ∃ a, cs[i]? = some a ∧ x = .ref a := by
      rw [List.getElem?_map] at hx
      cases e : cs[i]? with
      | none => rw [e] at hx; cases hx
      | some a => rw [e] at hx; exact ⟨a, rfl, (Option.some.inj hx).symm⟩
    obtain ⟨e, he, hia⟩ := paired_at tl3 ha
    have hil : i < qs.length := (List.getElem?_eq_some_iff.mp he).1
    obtain ⟨pxs, hp3⟩ := hP3.some
    have keepT : ∀ a xs, H3 a = some (.tup xs) → H' a = some (.tup xs) := fun a xs z => hB _ _ z (ne_of z hp3 fun z => nomatch z) (ne_of z hR3 fun z => nomatch z)
    have hia' : IsPr H' a e.1 := keepT _ _ hia
    have hem : e ∈ m := hqs.mem_iff.mp (List.mem_of_getElem? he)
    have hDm : DT RB H' d m := hD3.mono (fun o z => hB _ _ z hdp hrd.symm) fun v b h => h.mono keepT
    obtain ⟨o, g, ho⟩ := hDm.get hia'
    rw [look_of hnd hem] at ho
    rcases ho with ⟨z, _⟩ | ⟨b, v, hb, rfl, t, rfl, ht⟩
    · cases z
    cases hb
    refine ⟨_, rfl, _, rfl, d, _, rfl, g, t, e.2.1, e.2.2, rfl, SqT.of ht, fun w1 hw1 => ?_⟩
    refine ⟨w1, _, rfl, SqT.of upd_same, rfl, _, _, rfl, _, _, rfl, rfl, ?_⟩
    have s4 := same_new hw1 (.tup [wordV e.2.2, .int e.2.1])
    have hP4 := hPi.new (o := .tup [wordV e.2.2, .int e.2.1]) hw1
    generalize upd H' w1 (.tup [wordV e.2.2, .int e.2.1]) = H4 at s4 hP4
    refine ⟨_, rfl, _, rfl, _, rfl, (by show 2 ≤ sizeLine; decide), fun a1 h1 => ⟨_, rfl, _, rfl, (by show 2 ≤ sizeLine; decide), fun a2 h2 => ⟨(by show 2 ≤ sizeLine; decide), fun a3 h3 => ?_⟩⟩⟩
    have s5 := same_new h1 (.tup [wordV e.2.2, .int e.2.1])
    have s6 := same_new h2 (.lst [wordV e.2.2, .int e.2.1])
    have s7 := same_new h3 (.lst [.ref a1, .ref a2])
    have hP5 := hP4.new (o := .tup [wordV e.2.2, .int e.2.1]) h1
    have hP6 := hP5.new (o := .lst [wordV e.2.2, .int e.2.1]) h2
    have hP7 := hP6.new (o := .lst [.ref a1, .ref a2]) h3
    have n1 := hP4.apart h1
    have n2 := hP5.apart h2
    have n3 := hP6.apart h3
    have e1 : (upd (upd (upd H4 a1 (.tup [wordV e.2.2, .int e.2.1])) a2 (.lst [wordV e.2.2, .int e.2.1])) a3 (.lst [.ref a1, .ref a2])) a1 = some (.tup [wordV e.2.2, .int e.2.1]) := s7 _ _ (s6 _ _ upd_same)
    have e2 : (upd (upd (upd H4 a1 (.tup [wordV e.2.2, .int e.2.1])) a2 (.lst [wordV e.2.2, .int e.2.1])) a3 (.lst [.ref a1, .ref a2])) a2 = some (.lst [wordV e.2.2, .int e.2.1]) := s7 _ _ upd_same
    have e3 : (upd (upd (upd H4 a1 (.tup [wordV e.2.2, .int e.2.1])) a2 (.lst [wordV e.2.2, .int e.2.1])) a3 (.lst [.ref a1, .ref a2])) a3 = some (.lst [.ref a1, .ref a2]) := upd_same
    have s47 := ((s4.trans s5).trans s6).trans s7
    generalize upd (upd (upd H4 a1 (.tup [wordV e.2.2, .int e.2.1])) a2 (.lst [wordV e.2.2, .int e.2.1])) a3 (.lst [.ref a1, .ref a2]) = H7 at hP7 e1 e2 e3 s47
    clear s4 s5 s6 s7 hP4 hP5 hP6
    refine ⟨p, a3, _, _, rfl, hP7, by omega, .inl (SqL.of e3), n3, Nat.succ_pos _, (by show 2 ≤ 10000; decide), fun k v o hk hP8 => ?_⟩
    have b8 : But p H' (upd H7 p o) := (But.of s47).put
    have rv : RP K p (upd H7 p o) v e.2 := by
      match k, hk with
      | 0, hk =>
        cases hk
        exact ⟨a1, rfl, n1, .inr (SqT.of (by rw [upd_ne n1]; exact e1))⟩
      | 1, hk =>
        cases hk
        exact ⟨a2, rfl, n2, .inl (SqL.of (by rw [upd_ne n2]; exact e2))⟩
      | k + 2, hk => cases hk
    have hD8 : DT (RP K p) (upd H7 p o) r (qs.take i) := hD.mono (fun o z => b8 _ _ z hrp) fun v b h => h.but b8
    have hia8 : IsPr (upd H7 p o) a e.1 := b8.tk hPi _ _ hia'
    have fresh : look (qs.take i) e.1 = none := look_none fun e' he' z => by
      have h1 : (qs.map (·.1))[i]? = some e.1 := by rw [List.getElem?_map, he]; rfl
      refine not_before qnd h1 ?_
      rw [← z, ← List.map_take]
      exact List.mem_map.mpr ⟨e', he', rfl⟩
    have hkl : (qs.take i).length < sizeLine := by
      rw [List.length_take]
      exact small1000 (by omega)
    obtain ⟨o2, dp, dt⟩ := hD8.put hia8 fresh hkl rv fun o kvs v b e h => RP.put e h
    refine ⟨_, rfl, _, rfl, r, _, rfl, dp, _, _, _, rfl, ((hB.trans (But2.of b8)).put), (hP8.mono (by omega)).ne hrp, ?_⟩
    rw [take_snoc he]
    exact dt
  · rintro σ' H' ⟨u3, u4, u5, rfl, hB, hPi, hD⟩
    rw [List.length_map, lc, List.take_length] at hD
    rw [List.length_map] at hPi
    refine ⟨_, rfl, q qs r H' hqs hr0 (fun b o eb nb => ?_) (hPi.mono (by omega)) hD⟩
    exact hB _ _ (bH3 _ _ eb nb) nb (ne_of_none eb hr0)
end
end Rw
set_option Elab.async false
set_option linter.all false
set_option maxRecDepth 100000
set_option maxHeartbeats 8000000
namespace Rw
open PySem L2
def optM (m : List (Pr × Bd)) : List (Pr × Option Bd) := m.map fun e => (e.1, some e.2)
theorem look_opt {m : List (Pr × Bd)} {q : Pr} : look (optM m) q = (look m q).map some := by
  unfold optM
  induction m with
  | nil => rfl
  | cons e m ih =>
    rw [List.map_cons]
    by_cases c : e.1 = q
    · rw [look_pos c, look_pos (e := (e.1, some e.2)) c]
      rfl
    · rw [look_neg c, look_neg (e := (e.1, some e.2)) c, ih]
theorem keptB_congr {m1 m2 : List (Pr × Option Bd)} {ps : List Pr} (h : ∀ p ∈ ps, (look m1 p).getD none = (look m2 p).getD none) : keptB m1 ps = keptB m2 ps := by
  induction ps with
  | nil => rfl
  | cons p ps ih =>
    have e1 : ∀ m : List (Pr × Option Bd), keptB m (p :: ps) = keptB m [p] ++ keptB m ps := fun m => by
      unfold keptB
      rw [← List.filterMap_append]
      rfl
    rw [e1, e1, ih fun q hq => h q (List.mem_cons_of_mem _ hq)]
    congr 1
    have z := h p List.mem_cons_self
    unfold keptB
    rw [List.filterMap_cons, List.filterMap_cons, z, List.filterMap_nil, List.filterMap_nil]
theorem look_perm {β : Type} {qs m : List (Pr × β)} (h : qs.Perm m) (hn : (m.map (·.1)).Nodup) (q : Pr) : look qs q = look m q := by
  have hn2 : (qs.map (·.1)).Nodup := (h.map (·.1)).nodup_iff.mpr hn
  cases e : look m q with
  | none =>
    refine look_none fun x hx z => ?_
    have z2 := look_of hn (h.mem_iff.mp hx)
    rw [z, e] at z2
    cases z2
  | some b =>
    have z := look_of hn2 (h.mem_iff.mpr (look_in e))
    exact z
theorem GoodB.keys {ns : List Str} {m : List (Pr × Bd)} (h : GoodB ns m) : ∀ e ∈ m, e.1.1 ∈ ns ∧ e.1.2 ∈ ns ∧ e.1.1 ≠ e.1.2 := fun e he => by
  obtain ⟨h1, h2, h3⟩ := prsOf_mem (h.2 e he).1
  exact ⟨h1, h2, fun z => h3 z.symm⟩
theorem GoodB.mk {ns : List Str} {m : List (Pr × Bd)} (h : GoodB ns m) : Rw.Mk m := fun e he => (h.2 e he).2.2.2
theorem GoodB.few {ns : List Str} {m : List (Pr × Bd)} (h : GoodB ns m) (hn : ns.length ≤ 8) : m.length ≤ 64 := by
  have z := nodup_le h.1 (ys := prsOf ns) fun x hx => by
    obtain ⟨e, he, rfl⟩ := List.mem_map.mp hx
    exact (h.2 e he).1
  rw [List.length_map] at z
  have z2 : (prsOf ns).length ≤ ns.length * ns.length := prsOf_len ns ns
  have z3 : ns.length * ns.length ≤ 8 * 8 := Nat.mul_le_mul hn hn
  omega
theorem strOk_menu : ∀ x ∈ menu, PyData.strOk x = true := by decide +kernel
section
variable {P : Program} {w : World} {K : PySem.W.Frag} {mg : Str → Option Value} {base : Heap}
/-- the names that are drawn -/
structure Drawn (ns : List Str) : Prop where
  nd : (spots ns).Nodup
  sub : ∀ x ∈ ns, x ∈ menu
  few : ns.length ≤ 7
def spTable (K : PySem.W.Frag) (C : Addr) : Sp := fun vs H Q _ => ∃ (p l d : Addr) (ns : List Str) (m : List (Pr × Bd)) (n : Nat), vs = [.ref p, .ref l, .ref d] ∧ Pool H p n ∧ n + 3000 ≤ 1000000000 ∧ SqL K H l (ns.map V.str) ∧ l ≠ p ∧ Drawn ns ∧ DT RB H d m ∧ GoodB (spots ns) m ∧
  ∀ (t : Addr) (H' : Hp), H t = none → But p H H' → Pool H' p (n + 3000) → Tab K C H' t ns (keptB (optM m) (crossP (spots ns) (spots ns))) → Q (.ref t) H'
def nTable : List Str := ["_law_pool_here", "_law_names_here", "_law_bounds"]
theorem scTable : FnScope nTable nTable (defScope sTable) := ⟨rfl, rfl, rfl, by decide +kernel, rfl, by decide +kernel, by decide +kernel⟩
theorem ok_table {f fo fh ft C : Addr} {fd fdo fdh fdt : FuncData} (F : Fun K "_law_table" "_law_table" sTable f fd)
    (GO : FnOk P w K mg base CX0 2 fo fdo ["_law_pool_here", "_law_things"] (spOne K)) (bO : Binds K fdo ["_law_pool_here", "_law_things"] []) (kO : PySem.W.keepIn K (.ref fo) = true) (mO : mg "_law_one" = some (.ref fo))
    (GH : FnOk P w K mg base CX0 3 fh fdh ["_law_pool_here", "_law_bounds"] (spHanded K)) (bH : Binds K fdh ["_law_pool_here", "_law_bounds"] []) (kH : PySem.W.keepIn K (.ref fh) = true) (mH : mg "_law_handed" = some (.ref fh))
    (GT : FnOk P w K mg base CX0 4 ft fdt ["self", "names", "bounds"] (spTInit K C)) (MT : L2.Mk K C ft) (bT : Binds K fdt ["self", "names", "bounds"] []) (mC : mg "Table" = some (.ref C)) (mk : mg "list" = none) (mt : mg "tuple" = none) :
    FnOk P w K mg base CX0 6 f fd nTable (spTable K C) := by
  refine F.ok scTable (fun vs H Q E h => ?_) (fun cdv A outer s H vs Q E hr h => ?_)
  · obtain ⟨p, l, d, ns, m, n, rfl, _⟩ := h
    rfl
  obtain ⟨p, l, d, ns, m, n, rfl, hP, hn, hS, hlp, hdr, hD, hg, q⟩ := h
  refine ⟨_, pss_one (ps_ret (pe_make MT GT hr rfl mC bT .nil pass0 (pa_cons
      (pe_call GO (hr.mono (by decide)) rfl mO kO bO .nil pass0 (pa_cons (pv 0) (pa_cons (pe_lst (pa_cons (pe_callTy call_list_of rfl mk PyProof.Rows.boot_list (pa_cons (pv 1) pa_nil)) (pa_cons (pe_callTy (call_tupOf (K := K) rfl) rfl mt PyProof.Rows.boot_tuple (pa_cons (pv 1) pa_nil)) pa_nil))) pa_nil)))
      (pa_cons (pe_call GH (hr.mono (by decide)) rfl mH kH bH .nil pass0 (pa_cons (pv 0) (pa_cons (pv 2) pa_nil))) pa_nil)))), ?_⟩
  have few : m.length ≤ 64 := hg.few (by rw [List.length_cons]; exact Nat.succ_le_succ hdr.few)
  refine ⟨_, rfl, _, rfl, l, _, rfl, .inl hS, fun a1 h1 => ⟨_, rfl, l, _, rfl, .inl ⟨(same_new h1 _).seq hS, fun a2 h2 => ⟨(by show 2 ≤ sizeLine; decide), fun a3 h3 => ?_⟩⟩⟩⟩
  have s1 := same_new h1 (.lst (ns.map V.str))
  have s2 := same_new h2 (.tup (ns.map V.str))
  have s3 := same_new h3 (.lst [.ref a1, .ref a2])
  have hP1 := hP.new (o := .lst (ns.map V.str)) h1
  have hP2 := hP1.new (o := .tup (ns.map V.str)) h2
  have hP3 := hP2.new (o := .lst [.ref a1, .ref a2]) h3
  have n1 := hP.apart h1
  have n2 := hP1.apart h2
  have n3 := hP2.apart h3
  have e1 : (upd (upd (upd H a1 (.lst (ns.map V.str))) a2 (.tup (ns.map V.str))) a3 (.lst [.ref a1, .ref a2])) a1 = some (.lst (ns.map V.str)) := s3 _ _ (s2 _ _ upd_same)
  have e2 : (upd (upd (upd H a1 (.lst (ns.map V.str))) a2 (.tup (ns.map V.str))) a3 (.lst [.ref a1, .ref a2])) a2 = some (.tup (ns.map V.str)) := s3 _ _ upd_same
  have e3 : (upd (upd (upd H a1 (.lst (ns.map V.str))) a2 (.tup (ns.map V.str))) a3 (.lst [.ref a1, .ref a2])) a3 = some (.lst [.ref a1, .ref a2]) := upd_same
  have s13 := (s1.trans s2).trans s3
  generalize upd (upd (upd H a1 (.lst (ns.map V.str))) a2 (.tup (ns.map V.str))) a3 (.lst [.ref a1, .ref a2]) = H3 at hP3 e1 e2 e3 s13
  clear s1 s2 s3 hP1 hP2
  refine ⟨p, a3, _, _, rfl, hP3, by omega, .inl (SqL.of e3), n3, Nat.succ_pos _, (by show 2 ≤ 10000; decide), fun k v o hk hP4 => ?_⟩
  have b4 : But p H (upd H3 p o) := (But.of s13).put
  obtain ⟨a, rfl, hap, hT⟩ : ∃ a, v = .ref a ∧ a ≠ p ∧ TxS K (upd H3 p o) a ns := by
    match k, hk with
    | 0, hk =>
      cases hk
      exact ⟨a1, rfl, n1, .inl (SqL.of (by rw [upd_ne n1]; exact e1))⟩
    | 1, hk =>
      cases hk
      exact ⟨a2, rfl, n2, .inr (SqT.of (by rw [upd_ne n2]; exact e2))⟩
    | k + 2, hk => cases hk
  obtain ⟨pxs, hpo⟩ := hP.some
  have hdp : d ≠ p := by
    obtain ⟨kvs, e, _⟩ := hD
    exact ne_of e hpo fun z => nomatch z
  have hD4 : DT RB (upd H3 p o) d m := hD.mono (fun o e => b4 _ _ e hdp) fun v b h => h.mono (b4.tk hP)
  generalize upd H3 p o = H4 at hP4 b4 hT hD4
  refine ⟨_, rfl, _, rfl, p, d, m, _, rfl, hP4, by omega, hD4, hg.1, by omega, fun qs r H5 hqs hr5 b5 hP5 hR5 => ?_⟩
  have hT5 : TxS K H5 a ns := hT.but b5 hap
  intro x dx hx hdx hne
  have sM : Same H5 (upd (upd H5 dx (.own x)) x (.ins C dx [])) := fun b o e => by
    rw [upd_ne (ne_of_none e hx), upd_ne (ne_of_none e hdx)]
    exact e
  have hRO : DT (RO K) H5 r (optM qs) := by
    obtain ⟨kvs, e, z⟩ := hR5
    refine ⟨kvs, e, ?_⟩
    unfold optM
    exact paired_map (f := fun e : Pr × Bd => (e.1, some e.2)) (F := fun e kv => kv.1 = key2 e.1 ∧ RO K H5 kv.2 e.2) (Rw.Paired.imp z fun e kv _ y => ⟨y.1, y.2.ro⟩)
  have M5 : Makes K H5 a r ns (optM qs) := by
    refine ⟨hT5, hdr.nd, fun x hx => ⟨nameB_menu x (hdr.sub x hx), Nat.le_trans (len_menu x (hdr.sub x hx)) (by decide)⟩, fun x hx => strOk_menu x (hdr.sub x hx), Nat.le_trans hdr.few (by decide), hRO, fun e he => ?_, ?_⟩
    · unfold optM at he
      obtain ⟨e', he', rfl⟩ := List.mem_map.mp he
      exact hg.keys e' (hqs.mem_iff.mp he')
    · unfold optM
      rw [List.length_map, hqs.length_eq]
      omega
  refine ⟨H5, x, dx, a, r, ns, _, rfl, sM, hx, upd_same, M5.same sM, fun H6 s6 T => ⟨rfl, ?_⟩⟩
  have b6 : But p H H6 := (b4.trans b5).trans (But.of s6)
  refine q x H6 ?_ b6 ?_ ?_
  · have hxp : x ≠ p := by
      obtain ⟨_, e⟩ := hP5.some
      exact (ne_of_none e hx).symm
    exact (b4.trans b5).none hx hxp
  · obtain ⟨u1, u2, u3, e, z⟩ := hP5.mono (show _ ≤ n + 3000 by omega)
    exact ⟨u1, u2, u3, s6 _ _ e, z⟩
  · rw [keptB_congr (m2 := optM qs) fun q _ => by rw [look_opt, look_opt, look_perm hqs hg.1]]
    exact T
end
end Rw
set_option Elab.async false
set_option linter.all false
set_option maxRecDepth 100000
set_option maxHeartbeats 8000000
namespace Rw
open PySem L2
/-- the bounds between those that are none of some -/
def restM (cs : List Str) (m : List (Pr × Bd)) : List (Pr × Bd) := m.filter fun e => decide (e.1.1 ∉ cs ∧ e.1.2 ∉ cs)
theorem RB.putL {H : Hp} {d : Addr} {u o : HO} {v : V} {b : Bd} (e : H d = some u) (n : ∀ ys, u ≠ .tup ys) (h : RB H v b) : RB (upd H d o) v b := h.mono (Tk.upd e n)
section
variable {P : Program} {w : World} {K : PySem.W.Frag} {mg : Str → Option Value} {base : Heap}
def spRest (K : PySem.W.Frag) : Sp := fun vs H Q _ => ∃ (d l : Addr) (m : List (Pr × Bd)) (cs : List Str), vs = [.ref d, .ref l] ∧ DT RB H d m ∧ (m.map (·.1)).Nodup ∧ m.length ≤ 1000 ∧ SqL K H l (cs.map V.str) ∧ ∀ (r : Addr) (H' : Hp), H r = none → Same H H' → DT RB H' r (restM cs m) → Q (.ref r) H'
def nRest : List Str := ["_law_ways_here", "_law_some", "_law_pair"]
theorem scRest : FnScope nRest ["_law_ways_here", "_law_some"] (defScope sRest) := ⟨rfl, rfl, rfl, by decide +kernel, rfl, by decide +kernel, by decide +kernel⟩
theorem ok_rest {f : Addr} {fd : FuncData} (F : Fun K "_law_rest" "_law_rest" sRest f fd) (md : mg "dict" = none) : FnOk P w K mg base CX0 1 f fd ["_law_ways_here", "_law_some"] (spRest K) := by
  refine F.ok scRest (fun vs H Q E h => ?_) (fun cdv A outer s H vs Q E hr h => ?_)
  · obtain ⟨d, l, m, cs, rfl, _⟩ := h
    rfl
  obtain ⟨d, l, m, cs, rfl, ⟨kvs, hd, hpr⟩, hnd, hml, hS, q⟩ := h
  have hu := hu_of hr
  refine ⟨_, pss_one (ps_ret (pe_lock (pe_callTy (call_dictT rfl (Nat.lt_of_le_of_lt (Nat.add_le_add_left (by decide : 2 ≤ 64) _) hr.units)) rfl md PyProof.Rows.boot_dict (pa_cons
      (pe_lc (own := [("_law_pair", 2)]) (g := gName 2) (tt := tAnd (tTest (tOp (rIn K true) (tOp (rIxT K) (tVar 2) (tC (.int 0))) (tVar 1))) (tTest (tOp (rIn K true) (tOp (rIxT K) (tVar 2) (tC (.int 1))) (tVar 1)))) rfl scRest.nd (pi_keys (pv 0)) (blkOk_by (N := nRest) (sc := defScope sRest) (by decide +kernel)) (fun _ _ _ _ _ => pg_name (i := 2) scRest.nd rfl (Or.inl rfl))
        (fun _ _ _ _ _ => pts_one (PW.pt (pw_and (pt_cmpR op_notIn_seq (pe_ix ix_tup (pv 2) pe_int (fun _ _ => rfl)) (pv 1) rfl) (pw_and1 (pt_cmpR op_notIn_seq (pe_ix ix_tup (pv 2) pe_int (fun _ _ => rfl)) (pv 1) rfl)))))
        (fun _ _ _ _ _ => pe_tup (pa_cons (pv 2) (pa_cons (pe_dget hu (pv 0) (pv 2) (fun _ _ => rfl)) pa_nil)))) pa_nil)))), ?_⟩
  have hlk : m.length = kvs.length := Paired.length hpr
  refine ⟨d, .dT kvs, hd, True.intro, fun od => ?_⟩
  have lk0 : Lk H (upd H d (.frz od (.dT kvs))) d od (.dT kvs) := Lk.first
  refine ⟨_, rfl, d, od, rfl, .inr ⟨kvs, lk0.at', fun D hD => ?_⟩⟩
  have hS0 := lk0.sqL hd hS
  generalize upd H d (.frz od (.dT kvs)) = H1 at lk0 hD hS0
  refine lc_map (S := Same) walk_keysT (stp_same D) hD (by omega) (ofL m fun e => decide (e.1.1 ∉ cs ∧ e.1.2 ∉ cs)) (fun j H y => ∃ r, y = .ref r ∧ ∃ e, m[j]? = some e ∧ ∃ qa v, H r = some (.tup [.ref qa, v]) ∧ IsPr H qa e.1 ∧ RB H v e.2) ?_ ?_ ?_ ?_ ?_
  · rintro j H2 H3 y s2 ⟨r, rfl, e, he, qa, v, h1, h2, h3⟩
    exact ⟨r, rfl, e, he, qa, v, s2 _ _ h1, h2.same s2, h3.mono fun a xs e => s2 _ _ e⟩
  · rintro j H2 y acc o hacc ⟨r, rfl, e, he, qa, v, h1, h2, h3⟩
    refine ⟨r, rfl, e, he, qa, v, ?_, ?_, RB.putL hacc (fun _ z => nomatch z) h3⟩
    · rw [upd_ne (ne_of h1 hacc fun z => nomatch z)]
      exact h1
    · unfold IsPr at h2 ⊢
      rw [upd_ne (ne_of h2 hacc fun z => nomatch z)]
      exact h2
  · intro H2 s2
    exact s2 _ _ lk0.at'
  · rintro j x H2 H3 acc N Z hj s2 hacc ⟨rfl, k, v, qa, hkv, rfl, hqa⟩ hyes hno
    obtain ⟨e, he, hek, hev⟩ := paired_at hpr hkv
    have hek : k = key2 e.1 := hek
    subst hek
    have hqa : IsPr H3 qa e.1 := hqa
    have hem : e ∈ m := List.mem_of_getElem? he
    rcases pl_look (R := fun v b => RB H v b) e.1 hpr with ⟨g1, _⟩ | ⟨b, v', g1, g2, g3⟩
    · exact absurd g1 (look_mem hem)
    rw [look_of hnd hem] at g1
    cases g1
    have lk := lk0.same s2
    have gd : DGet H3 d (.ref qa) (some v') := .inr ⟨kvs, key2 e.1, qa, .inr ⟨od, lk.at'⟩, rfl, hqa, g2.symm⟩
    obtain ⟨t, rfl, ht⟩ := g3
    have ht3 : H3 t = some (.tup [.int e.2.1, .int e.2.2]) := lk.keep _ _ ht (ne_of ht hd fun z => nomatch z)
    have hS3 := s2.seq hS0
    have a0 : atI [V.str e.1.1, .str e.1.2] 0 = some (.str e.1.1) := rfl
    have a1 : atI [V.str e.1.1, .str e.1.2] 1 = some (.str e.1.2) := rfl
    have flat : flatV (V.str e.1.1) = true := rfl
    refine ⟨rfl, _, rfl, qa, _, 0, _, rfl, rfl, SqT.of hqa, a0, _, rfl, l, _, rfl, .inl hS3, rfl, flat_strs, _, rfl, ?_⟩
    rw [if_pos rfl, inV_str]
    refine ite2 (fun h => ?_) (fun h => ?_)
    · have h1 : e.1.1 ∉ cs := fun z => by
        rw [decide_eq_true z] at h
        cases h
      refine ⟨_, rfl, qa, _, 1, _, rfl, rfl, SqT.of hqa, a1, _, rfl, l, _, rfl, .inl hS3, rfl, flat_strs, _, rfl, ?_⟩
      rw [if_pos rfl, inV_str]
      refine ite2 (fun h => ?_) (fun h => ?_)
      · have h2 : e.1.2 ∉ cs := fun z => by
          rw [decide_eq_true z] at h
          cases h
        refine ⟨_, rfl, _, rfl, _, rfl, d, _, rfl, gd, (by show 2 ≤ sizeLine; decide), fun r2 hr2 => ?_⟩
        have s4 := same_new hr2 (.tup [.ref qa, .ref t])
        exact hyes (by rw [ofL_at he]; exact decide_eq_true ⟨h1, h2⟩) _ _ s4 ⟨r2, rfl, e, he, qa, _, upd_same, hqa.same s4, t, rfl, s4 _ _ ht3⟩
      · have h2 : e.1.2 ∈ cs := by
          by_cases z : e.1.2 ∈ cs
          · exact z
          · rw [decide_eq_false z] at h
            exact absurd rfl h
        exact hno (by rw [ofL_at he]; exact decide_eq_false fun z => z.2 h2) _ (Same.refl _)
    · have h1 : e.1.1 ∈ cs := by
        by_cases z : e.1.1 ∈ cs
        · exact z
        · rw [decide_eq_false z] at h
          exact absurd rfl h
      refine (if_neg (by decide)).mpr ?_
      exact hno (by rw [ofL_at he]; exact decide_eq_false fun z => z.1 h1) _ (Same.refl _)
  · intro ys H3 s3 e3 r3
    rw [← hlk] at r3
    have r4 : Paired (fun e y => ∃ r, y = .ref r ∧ ∃ qa v, H3 r = some (.tup [.ref qa, v]) ∧ IsPr H3 qa e.1 ∧ RB H3 v e.2) (restM cs m) ys := chosen_whole (fun j c y hc ⟨r, hr, e, he, z⟩ => ⟨r, hr, by rw [hc] at he; cases he; exact z⟩) r3
    obtain ⟨ps, rfl, r5⟩ := paired_refs r4
    obtain ⟨kv2, g1, g2, g3⟩ := pairs_kvs (R := fun v b => RB H3 v b) r5
    have rnd : ((restM cs m).map (·.1)).Nodup := hnd.sublist ((List.filter_sublist (p := fun e => decide (e.1.1 ∉ cs ∧ e.1.2 ∉ cs)) (l := m)).map _)
    refine ⟨D, ps, kv2, rfl, SqL.of e3, g1, by rw [g3]; exact keys_nd rnd, fun p hp => ?_⟩
    have lk := (lk0.same s3).new hp (o := .dT kv2)
    have hpd : p ≠ d := (ne_of_none (lk0.same s3).at' hp).symm
    refine ⟨lk.at', q p _ ?_ (lk.back hd) ⟨kv2, by rw [upd_ne hpd]; exact upd_same, Rw.Paired.imp g2 fun e kv _ h => ⟨h.1, ?_⟩⟩⟩
    · cases e : H p with
      | none => rfl
      | some o => 
        have z := (lk0.same s3).keep p o e hpd
        rw [hp] at z
        cases z
    · exact RB.putL lk.at' (fun _ z => nomatch z) (h.2.mono fun a xs e => same_new hp (.dT kv2) _ _ e)
end
end Rw
set_option Elab.async false
set_option linter.all false
set_option maxRecDepth 100000
set_option maxHeartbeats 8000000
namespace Rw
open PySem L2
abbrev sNought : Stmt := top 56
def rep (cs : List Str) (x : Str) : Str := if x ∈ cs then "" else x
/-- what the law tells for the pairs that have one of some -/
def atN (cs : List Str) (m : List (Pr × Bd)) (p : Pr) : Option Bd := if p.1 ∈ cs ∨ p.2 ∈ cs then (if rep cs p.1 = rep cs p.2 then some (0, 0) else look (restM cs m) (rep cs p.1, rep cs p.2)) else none
def noughtL (cs : List Str) (m : List (Pr × Bd)) (ps : List Pr) : List (Pr × Bd) := ps.filterMap fun p => (atN cs m p).map fun b => (p, b)
theorem noughtL_snoc {cs : List Str} {m : List (Pr × Bd)} {ps : List Pr} {p : Pr} : noughtL cs m (ps ++ [p]) = noughtL cs m ps ++ (match atN cs m p with | some b => [(p, b)] | none => []) := by
  unfold noughtL
  rw [List.filterMap_append, List.filterMap_cons, List.filterMap_nil]
  cases atN cs m p <;> rfl
theorem noughtL_key {cs : List Str} {m : List (Pr × Bd)} {ps : List Pr} {e : Pr × Bd} (h : e ∈ noughtL cs m ps) : e.1 ∈ ps ∧ atN cs m e.1 = some e.2 := by
  unfold noughtL at h
  obtain ⟨p, hp, h⟩ := List.mem_filterMap.mp h
  cases e' : atN cs m p with
  | none => rw [e'] at h; cases h
  | some b =>
    rw [e'] at h
    cases h
    exact ⟨hp, e'⟩
theorem atN_in {cs : List Str} {m : List (Pr × Bd)} {p : Pr} {b : Bd} (h : atN cs m p = some b) : p.1 ∈ cs ∨ p.2 ∈ cs := by
  unfold atN at h
  split at h
  · assumption
  · cases h
theorem restM_key {cs : List Str} {m : List (Pr × Bd)} {e : Pr × Bd} (h : e ∈ restM cs m) : e ∈ m ∧ e.1.1 ∉ cs ∧ e.1.2 ∉ cs := by
  unfold restM at h
  obtain ⟨h1, h2⟩ := List.mem_filter.mp h
  have h2 := of_decide_eq_true h2
  exact ⟨h1, h2.1, h2.2⟩
theorem look_app {β : Type} {m1 m2 : List (Pr × β)} {q : Pr} : look (m1 ++ m2) q = match look m1 q with | some b => some b | none => look m2 q := by
  induction m1 with
  | nil => rfl
  | cons e m1 ih =>
    rw [List.cons_append]
    by_cases c : e.1 = q
    · rw [look_pos c, look_pos c]
    · rw [look_neg c, look_neg c, ih]
theorem rep_out {cs : List Str} {x : Str} (h : ("" : Str) ∉ cs) : rep cs x ∉ cs := by
  unfold rep
  by_cases c : x ∈ cs
  · rw [if_pos c]
    exact h
  · rw [if_neg c]
    exact c
section
variable {P : Program} {w : World} {K : PySem.W.Frag} {mg : Str → Option Value} {base : Heap}
def spNought (K : PySem.W.Frag) : Sp := fun vs H Q _ => ∃ (d l c : Addr) (m : List (Pr × Bd)) (ns cs : List Str), vs = [.ref d, .ref l, .ref c] ∧ DT RB H d m ∧ (m.map (·.1)).Nodup ∧ m.length ≤ 100 ∧ H l = some (.lst (ns.map V.str)) ∧ SqL K H c (cs.map V.str) ∧ Drawn ns ∧ ("" : Str) ∉ cs ∧
  ∀ (r : Addr) (H' : Hp), H r = none → Same H H' → DT RB H' r (restM cs m ++ noughtL cs m (prsOf (spots ns))) → Q (.ref r) H'
def nNought : List Str := ["_law_ways_here", "_law_names_here", "_law_some", "_law_found", "_law_pair", "_law_one_here", "_law_other", "_law_way_here", "_law_name"]
theorem scNought : FnScope nNought ["_law_ways_here", "_law_names_here", "_law_some"] (defScope sNought) := ⟨rfl, rfl, rfl, by decide +kernel, rfl, by decide +kernel, by decide +kernel⟩
theorem ok_nought {f fr fp : Addr} {fd fdr fdp : FuncData} (F : Fun K "_law_at_nought" "_law_at_nought" sNought f fd)
    (GR : FnOk P w K mg base CX0 1 fr fdr ["_law_ways_here", "_law_some"] (spRest K)) (bR : Binds K fdr ["_law_ways_here", "_law_some"] []) (kR : PySem.W.keepIn K (.ref fr) = true) (mR : mg "_law_rest" = some (.ref fr))
    (GP : FnOk P w K mg base CX0 1 fp fdp ["_law_ones"] (spPairs K)) (bP : Binds K fdp ["_law_ones"] []) (kP : PySem.W.keepIn K (.ref fp) = true) (mP : mg "_law_pairs" = some (.ref fp)) :
    FnOk P w K mg base CX0 2 f fd ["_law_ways_here", "_law_names_here", "_law_some"] (spNought K) := by
  refine F.ok scNought (fun vs H Q E h => ?_) (fun cdv A outer s H vs Q E hr h => ?_)
  · obtain ⟨d, l, c, m, ns, cs, rfl, _⟩ := h
    rfl
  obtain ⟨d, l, c, m, ns, cs, rfl, hD, hnd, hml, hl, hS, hdr, hcs, q⟩ := h
  have hu := hu_of hr
  refine ⟨_, pss_cons (ps_set (i := 3) scNought.nd rfl (Or.inl rfl) (pe_call GR hr rfl mR kR bR .nil pass0 (pa_cons (pv 0) (pa_cons (pv 2) pa_nil))))
    (pss_cons (ps_for PassesOwn.never rfl (pi_list (pe_call GP hr rfl mP kP bP .nil pass0 (pa_cons (pe_op op_cat (pe_lst (pa_cons pe_str pa_nil)) (pv 1)) pa_nil))) (pg_name (i := 4) scNought.nd rfl (Or.inl rfl))
      (pss_cons (ps_asg (pe_lc (own := [("_law_name", 8)]) (g := gName 8) (tt := tYes) (te := tIf (tTest (tOp (rIn K false) (tVar 8) (tVar 2))) (tC (.str "")) (tVar 8)) rfl scNought.nd (pi_tup (pv 4)) (blkOk_by (N := nNought) (sc := defScope sNought) (by decide +kernel)) (fun _ _ _ _ _ => pg_name (i := 8) scNought.nd rfl (Or.inl rfl)) (fun _ _ _ _ _ => pts_nil)
          (fun _ _ _ _ _ => pe_ifExp (pt_cmpR op_in_seq (pv 8) (pv 2) rfl) pe_str (pv 8))) (pg_lst rfl (pgs_cons (pg_name (i := 5) scNought.nd rfl (Or.inl rfl)) (pgs_cons (pg_name (i := 6) scNought.nd rfl (Or.inl rfl)) pgs_nil))))
      (pss_one (ps_if (PW.pt (pw_or (pt_cmpR op_in_seq (pe_ix ix_tup (pv 4) pe_int (fun _ _ => rfl)) (pv 2) rfl) (pw_or1 (pt_cmpR op_in_seq (pe_ix ix_tup (pv 4) pe_int (fun _ _ => rfl)) (pv 2) rfl))))
        (pss_cons (ps_set (i := 7) scNought.nd rfl (Or.inl rfl) (pe_ifExp (pt_cmpR op_eq (pv 5) (pv 6) (nomark _)) (pe_tup (pa_cons pe_int (pa_cons pe_int pa_nil))) (pe_dget1 hu (pv 3) (pe_tup (pa_cons (pv 5) (pa_cons (pv 6) pa_nil))) ⟨rfl, rfl, rfl, rfl⟩)))
        (pss_one (ps_if (pt_cmpR op_notN (pv 7) pe_non (nomark _)) (pss_one (ps_dput hu (pv 3) (pv 4) (pv 7) rfl)) pss_nil))) pss_nil))))
    (pss_one (ps_ret (pv 3)))), ?_⟩
  refine ⟨_, rfl, _, rfl, d, c, m, cs, rfl, hD, hnd, by omega, hS, fun r H1 hr0 s1 hR1 => ?_⟩
  have hl1 := s1 _ _ hl
  refine ⟨(by show 1 ≤ sizeLine; decide), fun p1 hp1 => ⟨_, rfl, p1, l, _, _, rfl, rfl, upd_same, (by rw [upd_ne (ne_of_none hl1 hp1)]; exact hl1), ?_, fun sp hsp => ?_⟩⟩
  · rw [List.length_map]
    have z := hdr.few
    exact Nat.le_of_lt (small1000 (show 1 + ns.length ≤ 1000 by omega))
  have s2 : Same H1 (upd (upd H1 p1 (.lst [.str ""])) sp (.lst ([.str ""] ++ ns.map V.str))) := (same_new hp1 _).trans (same_new hsp _)
  have hsp2 : (upd (upd H1 p1 (.lst [.str ""])) sp (.lst ([.str ""] ++ ns.map V.str))) sp = some (.lst ((spots ns).map V.str)) := upd_same
  generalize upd (upd H1 p1 (.lst [.str ""])) sp (.lst ([.str ""] ++ ns.map V.str)) = H2 at s2 hsp2
  have few := hdr.few
  have ssl : (spots ns).length = ns.length + 1 := List.length_cons ..
  refine ⟨sp, spots ns, rfl, SqL.of hsp2, by omega, fun as r2 H3 hr2 s3 tl er => ?_⟩
  have s13 := s2.trans s3
  have hR3 : DT RB H3 r (restM cs m) := hR1.mono (fun o e => s13 _ _ e) fun v b h => h.mono fun a xs e => s13 _ _ e
  have las : as.length = (prsOf (spots ns)).length := (Paired.length tl).symm
  have pl64 : (prsOf (spots ns)).length ≤ 64 := Nat.le_trans (prsOf_len _ _) (by rw [ssl]; exact Nat.mul_le_mul (show _ ≤ 8 by omega) (show _ ≤ 8 by omega))
  have hpn : (prsOf (spots ns)).Nodup := prsOf_nd hdr.nd hdr.nd
  have hrr : r2 ≠ r := by
    obtain ⟨kvs, e, _⟩ := hR3
    exact ne_of er e fun z => nomatch z
  refine ⟨r2, rfl, ⟨_, SqL.of er⟩, for_list (xs := as.map V.ref) (fun i σ' H' => ∃ (u4 u5 u6 u7 u8 : Option V), σ' = [some (.ref d), some (.ref l), some (.ref c), some (.ref r), u4, u5, u6, u7, u8] ∧ Same H H' ∧ But r H3 H' ∧ DT RB H' r (restM cs m ++ noughtL cs m ((prsOf (spots ns)).take i))) ?_ ?_ ?_ ?_⟩
  · refine ⟨none, none, none, none, none, rfl, s1.trans s13, But.refl, ?_⟩
    rw [List.take_zero]
    show DT RB H3 r (restM cs m ++ [])
    rw [List.append_nil]
    exact hR3
  · rintro i σ' H' _ ⟨u4, u5, u6, u7, u8, rfl, hs, hB, _⟩
    exact SqL.of (hB _ _ er hrr)
  · rintro i x σ' H' hx ⟨u4, u5, u6, u7, u8, rfl, hs, hB, hDi⟩
    obtain ⟨a, ha, rfl⟩ := at_map hx
    obtain ⟨⟨x, y⟩, he, hia⟩ := paired_at tl ha
    have hia : IsPr H3 a (x, y) := hia
    have har : a ≠ r := by
      obtain ⟨kvs, e, _⟩ := hR3
      exact ne_of hia e fun z => nomatch z
    have hia' : IsPr H' a (x, y) := hB _ _ hia har
    rw [take_snoc he, noughtL_snoc, ← List.append_assoc]
    have hS' := hs.seq hS
    refine ⟨_, rfl, a, rfl, ⟨_, SqT.of hia'⟩, fun D hD' => ?_⟩
    refine lc_map (S := Same) (walk_tup (K := K) (a := a) (xs := [V.str x, .str y])) (stp_same D) hD' (by show 2 ≤ 50000; decide) (ofL [x, y] fun _ => true) (fun j H y' => ∃ z, [x, y][j]? = some z ∧ y' = .str (rep cs z)) ?_ ?_ ?_ ?_ ?_
    · rintro j H4 H5 y' s4 z
      exact z
    · rintro j H4 y' acc o hacc z
      exact z
    · intro H4 s4
      exact sqT_same s4 (SqT.of hia')
    · rintro j y' H4 H5 acc N Z hj s4 hacc ⟨rfl, hy⟩ hyes hno
      obtain ⟨z, hz, rfl⟩ := at_map (f := V.str) (xs := [x, y]) hy
      refine ⟨rfl, iteT (B := Z H5) ?_⟩
      refine ⟨_, rfl, _, rfl, c, _, rfl, .inl (s4.seq hS'), rfl, flat_strs, _, rfl, ?_⟩
      rw [if_neg Bool.false_ne_true, inV_str]
      refine ite2 (fun h => ?_) (fun h => ?_)
      · exact hyes (by rw [ofL_at hz]) _ _ (Same.refl _) ⟨z, hz, by unfold rep; rw [if_pos (of_decide_eq_true h)]⟩
      · exact ⟨_, rfl, hyes (by rw [ofL_at hz]) _ _ (Same.refl _) ⟨z, hz, by unfold rep; rw [if_neg fun w => h (decide_eq_true w)]⟩⟩
    · intro ys H4 s4 e4 r4
      have r5 : Paired (fun z y' => y' = V.str (rep cs z)) ([x, y].filter fun _ => true) ys := chosen_whole (fun j z y' hz ⟨z', hz', e⟩ => by rw [hz] at hz'; cases hz'; exact e) r4
      have ey := paired_eq r5
      have ey : ys = [.str (rep cs x), .str (rep cs y)] := ey
      subst ey
      refine ⟨D, _, rfl, SqL.of e4, rfl, _, _, rfl, _, _, rfl, rfl, ?_⟩
      have hs4 := hs.trans s4
      have hS4 := hs4.seq hS
      have hia4 : IsPr H4 a (x, y) := hia'.same s4
      have hB4 : But r H3 H4 := hB.trans (But.of s4)
      have hD4 : DT RB H4 r (restM cs m ++ noughtL cs m ((prsOf (spots ns)).take i)) := hDi.mono (fun o e => s4 _ _ e) fun v b h => h.mono fun a xs e => s4 _ _ e
      have a0 : atI [V.str x, .str y] 0 = some (.str x) := rfl
      have a1 : atI [V.str x, .str y] 1 = some (.str y) := rfl
      have none_nx : ∀ u7 H6, Same H4 H6 → atN cs m (x, y) = none → ∃ (v4 v5 v6 v7 v8 : Option V), [some (.ref d), some (.ref l), some (.ref c), some (.ref r), some (.ref a), some (.str (rep cs x)), some (.str (rep cs y)), u7, u8] = [some (.ref d), some (.ref l), some (.ref c), some (.ref r), v4, v5, v6, v7, v8] ∧ Same H H6 ∧ But r H3 H6 ∧
          DT RB H6 r (restM cs m ++ noughtL cs m ((prsOf (spots ns)).take i) ++ (match atN cs m (x, y) with | some b => [((x, y), b)] | none => [])) := fun u7 H6 s6 e => by
        refine ⟨_, _, _, _, _, rfl, hs4.trans s6, hB4.trans (But.of s6), ?_⟩
        rw [e]
        show DT RB H6 r (_ ++ [])
        rw [List.append_nil]
        exact hD4.mono (fun o e => s6 _ _ e) fun v b h => h.mono fun a xs e => s6 _ _ e
      have fresh : (x ∈ cs ∨ y ∈ cs) → look (restM cs m ++ noughtL cs m ((prsOf (spots ns)).take i)) (x, y) = none := fun hor => look_none fun e' he' z => by
        rcases List.mem_append.mp he' with h | h
        · obtain ⟨_, h1, h2⟩ := restM_key h
          rw [z] at h1 h2
          exact hor.elim h1 h2
        · have z2 := (noughtL_key h).1
          rw [z] at z2
          exact not_before hpn he z2
      have small : (restM cs m ++ noughtL cs m ((prsOf (spots ns)).take i)).length < sizeLine := by
        refine small1000 ?_
        rw [List.length_append]
        have z1 : (restM cs m).length ≤ m.length := List.length_filter_le _ _
        have z2 : (noughtL cs m ((prsOf (spots ns)).take i)).length ≤ ((prsOf (spots ns)).take i).length := List.length_filterMap_le _ _
        rw [List.length_take] at z2
        omega
      have fin : (x ∈ cs ∨ y ∈ cs) → ∀ (H6 : Hp) (t : Addr) (b : Bd), Same H4 H6 → H6 t = some (.tup [.int b.1, .int b.2]) → atN cs m (x, y) = some b → ∃ H7, DPut H6 r (.ref a) (.ref t) H7 ∧ ∃ (v4 v5 v6 v7 v8 : Option V), [some (.ref d), some (.ref l), some (.ref c), some (.ref r), some (.ref a), some (.str (rep cs x)), some (.str (rep cs y)), some (.ref t), u8] = [some (.ref d), some (.ref l), some (.ref c), some (.ref r), v4, v5, v6, v7, v8] ∧ Same H H7 ∧ But r H3 H7 ∧
          DT RB H7 r (restM cs m ++ noughtL cs m ((prsOf (spots ns)).take i) ++ (match atN cs m (x, y) with | some b => [((x, y), b)] | none => [])) := fun hor H6 t b s6 ht e => by
        have hD6 : DT RB H6 r (restM cs m ++ noughtL cs m ((prsOf (spots ns)).take i)) := hD4.mono (fun o e => s6 _ _ e) fun v b h => h.mono fun a xs e => s6 _ _ e
        obtain ⟨o, dp, dt⟩ := hD6.put (hia4.same s6) (fresh hor) small (b := b) (show RB H6 (.ref t) b from ⟨t, rfl, ht⟩) fun o kvs v b e h => RB.putL e (fun _ z => nomatch z) h
        refine ⟨_, dp, _, _, _, _, _, rfl, fun b' o' eb => ?_, (hB4.trans (But.of s6)).put, ?_⟩
        · rw [upd_ne (ne_of_none eb hr0)]
          exact s6 _ _ (hs4 _ _ eb)
        · rw [e]
          exact dt
      refine ⟨_, rfl, a, _, 0, _, rfl, rfl, SqT.of hia4, a0, _, rfl, c, _, rfl, .inl hS4, rfl, flat_strs, _, rfl, ?_⟩
      rw [if_neg Bool.false_ne_true, inV_str]
      by_cases hor : x ∈ cs ∨ y ∈ cs
      · refine (fun body => ite2 (fun _ => iteT body) (fun h1 => ⟨_, rfl, a, _, 1, _, rfl, rfl, SqT.of hia4, a1, _, rfl, c, _, rfl, .inl hS4, rfl, flat_strs, _, rfl, ?second⟩)) ?body
        case second =>
          rw [if_neg Bool.false_ne_true, inV_str]
          have h2 : y ∈ cs := hor.resolve_left fun z => h1 (decide_eq_true z)
          rw [decide_eq_true h2]
          exact iteT body
        case body =>
          refine ⟨_, rfl, _, rfl, rfl, _, rfl, ?_⟩
          refine ite2 (fun h => ?_) (fun h => ?_)
          · have hxy : rep cs x = rep cs y := by
              have z := of_decide_eq_true h
              injection z
            have ea : atN cs m (x, y) = some (0, 0) := by unfold atN; rw [if_pos hor, if_pos hxy]
            refine ⟨(by show 2 ≤ sizeLine; decide), fun t ht => ?_⟩
            refine ⟨_, rfl, rfl, _, rfl, (if_pos rfl).mpr ?_⟩
            obtain ⟨H7, dp, z⟩ := fin hor _ t (0, 0) (same_new ht _) upd_same ea
            exact ⟨_, rfl, _, rfl, _, rfl, r, H7, rfl, dp, z⟩
          · have hxy : rep cs x ≠ rep cs y := fun z => h (decide_eq_true (by rw [z]))
            have ea : atN cs m (x, y) = look (restM cs m) (rep cs x, rep cs y) := by unfold atN; rw [if_pos hor, if_neg hxy]
            obtain ⟨kv4, hkd4, _⟩ := id hD4
            refine ⟨_, rfl, r, rfl, .inr ⟨kv4, .inl hkd4⟩, _, rfl, _, rfl, (by show 2 ≤ sizeLine; decide), fun t ht => ?_⟩
            have s5 := same_new ht (.tup [.str (rep cs x), .str (rep cs y)])
            have hD5 : DT RB (upd H4 t (.tup [.str (rep cs x), .str (rep cs y)])) r (restM cs m ++ noughtL cs m ((prsOf (spots ns)).take i)) := hD4.mono (fun o e => s5 _ _ e) fun v b h => h.mono fun a xs e => s5 _ _ e
            obtain ⟨o, g, ho⟩ := hD5.get (show IsPr _ t (rep cs x, rep cs y) from upd_same)
            refine ⟨o, g, ?_⟩
            have elook : look (restM cs m ++ noughtL cs m ((prsOf (spots ns)).take i)) (rep cs x, rep cs y) = look (restM cs m) (rep cs x, rep cs y) := by
              rw [look_app, look_none (m := noughtL cs m ((prsOf (spots ns)).take i)) fun e' he' z => ?_]
              · cases look (restM cs m) (rep cs x, rep cs y) <;> rfl
              · have z2 := atN_in (noughtL_key he').2
                rw [z] at z2
                exact z2.elim (rep_out hcs) (rep_out hcs)
            rw [elook, ← ea] at ho
            generalize upd H4 t (.tup [.str (rep cs x), .str (rep cs y)]) = H5 at s5 g ho
            rcases ho with ⟨e1, rfl⟩ | ⟨b, v, e1, rfl, t2, rfl, ht2⟩
            · refine ⟨_, rfl, rfl, _, rfl, (if_neg (by decide)).mpr ?_⟩
              exact none_nx _ H5 s5 e1
            · refine ⟨_, rfl, rfl, _, rfl, (if_pos rfl).mpr ?_⟩
              obtain ⟨H7, dp, z⟩ := fin hor _ t2 b s5 ht2 e1
              exact ⟨_, rfl, _, rfl, _, rfl, r, H7, rfl, dp, z⟩
      · have h1 : x ∉ cs := fun z => hor (.inl z)
        have h2 : y ∉ cs := fun z => hor (.inr z)
        rw [decide_eq_false h1]
        refine (if_neg Bool.false_ne_true).mpr ⟨_, rfl, a, _, 1, _, rfl, rfl, SqT.of hia4, a1, _, rfl, c, _, rfl, .inl hS4, rfl, flat_strs, _, rfl, ?_⟩
        rw [if_neg Bool.false_ne_true, inV_str, decide_eq_false h2]
        refine (if_neg Bool.false_ne_true).mpr ?_
        exact none_nx u7 H4 (Same.refl _) (by unfold atN; rw [if_neg hor])
  · rintro σ' H' ⟨u4, u5, u6, u7, u8, rfl, hs, hB, hDi⟩
    refine ⟨_, rfl, q r H' hr0 hs ?_⟩
    rw [List.length_map, las, List.take_length] at hDi
    exact hDi
end
end Rw
set_option Elab.async false
set_option linter.all false
set_option maxRecDepth 100000
set_option maxHeartbeats 8000000
namespace Rw
open PySem L2
abbrev sMet : Stmt := top 54
/-- _law_met: what is told of the call, or of the error's index -/
def TMet (CS : Addr) : (XK → Hp → VK → Prop) → Hp → VK → Prop := fun tl H Q =>
  tl (fun cls d H' => cls = .ref CS ∧ ∃ (dd : Addr) (fs : List (Str × V)) (v : V), d = some dd ∧ H' dd = some (.xd fs) ∧ fs.lookup ("index" : Str) = some v ∧ ∀ p, H' p = none → Q (.ref p) (upd H' p (.tup [.str "names", v]))) H
    (fun u H' => 2 ≤ sizeLine ∧ ∀ p, H' p = none → Q (.ref p) (upd H' p (.tup [.str "told", u])))
section
variable {X : Cx}
theorem takes_len {n : Nat} {W : WX} (t : Takes X W) (hN : X.N.length = n := by rfl) : Takes X (fun cls d σ H => σ.length = n → W cls d σ H) := fun u s' ⟨a, B, sI, pins, σ, H, cls, d, e, I, nb, up, sky, na, os, ag, w⟩ =>
  t u s' ⟨a, B, sI, pins, σ, H, cls, d, e, I, nb, up, sky, na, os, ag, w (I.len.trans hN)⟩
theorem met_gives {g CS : Addr} {cdg : Value} (hme : X.mg "BadNames" = some (.ref CS)) (T : XfC X.K CS) (hno : PySem.W.findIn X.K (.ref CS) "index" = some none) (hx1 : PySem.W.exmOne X.K (.ref CS) (.ref CS) = some true) (q : Str) :
    LamX.GivesTo X ["_law_ask", "e"] "_law_met" (defScope sMet) g cdg (defBody sMet) "_law_ask" q (TMet CS) := by
  intro f c' s H Q tl act hc h
  refine ⟨_, pss_one (ps_try_as (X := (cxOf C8.CX0 X.prog X.w X.K X.mg X.base ["_law_ask", "e"] "_law_met" (defScope sMet) g cdg X.A X.stack s H C8.E0).nox) (i := 1) (c := .ref CS)
      (tb := fun W D σ H => ∃ Ech : XK, (∀ cls d σ' H', σ'.length = 2 → Ech cls d H' → W cls d σ' H') ∧ σ[0]? = some (some (.ref f)) ∧ H c' = some (LamX.CodeO c' q) ∧ tl Ech H (fun u H' => 2 ≤ sizeLine ∧ ∀ p, H' p = none → D.rt (.ref p) (upd H' p (.tup [.str "told", u]))))
      rfl rfl (show (["_law_ask", "e"] : List Str).Nodup by decide +kernel) rfl rfl ⟨rfl, by decide, .inl hme⟩ LamX.takes0 (fun W pn xe tk _ => ?_) (fun a oe cls d pn hz hf => pss_one (ps_ret (pe_tup (pa_cons pe_str (pa_cons (pe_xf T hno hz hf (pv 1)) pa_nil)))))), ?_⟩
  · refine ⟨fun pins s' σ H' D I h' => ?_⟩
    obtain ⟨Ech, hW, h1, h2, h3⟩ := h'
    refine PSs.run (t := tRet (tTup (tCons (tC (.str "told")) (tCons (fun σZ HZ Q => σZ[0]? = some (some (V.ref f)) ∧ HZ c' = some (LamX.CodeO c' q) ∧ tl Ech HZ Q) tNil)))) ?_ pins s' σ H' D I ⟨h1, h2, h3⟩
    exact pss_one (ps_ret (pe_tup (pa_cons pe_str (pa_cons (act (fun cls d σ H => σ.length = 2 → W cls d σ H) pn xe Ech _ _ (takes_len tk) fun cls d σ' H' h hl => hW cls d σ' H' hl h) pa_nil))))
  · refine ⟨_, fun cls d σ' H' hlen hw => ?_, rfl, hc, h⟩
    obtain ⟨rfl, dd, fs, v, rfl, e1, e2, hq⟩ := hw
    refine ⟨true, hx1, fun _ a ha => ?_, fun z => by cases z⟩
    refine ⟨_, ?_, rfl, rfl, dd, fs, v, rfl, e1, e2, (by show 2 ≤ sizeLine; decide), fun p hp => ?_⟩
    · rw [List.getElem?_set_self (by omega)]
    · exact hq p hp
end
end Rw
set_option Elab.async false
set_option linter.all false
set_option maxRecDepth 100000
set_option maxHeartbeats 4000000
namespace Rw
open PySem L2
theorem look_hand {M : Mat} {ss : List Str} (hn : ss.Nodup) {i j : Nat} {a b : Str} (ha : ss[i]? = some a) (hb : ss[j]? = some b) : (look (handM M ss ss.length) (a, b)).getD none = if a = b then none else (matAt M i j).map boundC := by
  have hi := (List.getElem?_eq_some_iff.mp ha).1
  have hj := (List.getElem?_eq_some_iff.mp hb).1
  cases e : look (handM M ss ss.length) (a, b) with
  | none =>
    by_cases c : a = b
    · rw [if_pos c]
      rfl
    · have hij : i ≠ j := fun z => by
        subst z
        rw [ha] at hb
        exact c (Option.some.inj hb)
      have hm : ((a, b), (matAt M i j).map boundC) ∈ handM M ss ss.length := by
        unfold handM rowM
        refine List.mem_flatMap.mpr ⟨i, List.mem_range.mpr hi, List.mem_map.mpr ⟨j, List.mem_filter.mpr ⟨List.mem_range.mpr hj, decide_eq_true hij⟩, ?_⟩⟩
        rw [ha, hb]
        rfl
      exact absurd e (look_mem hm)
  | some x =>
    obtain ⟨i', j', h1, h2, h3, h4, h5⟩ := handM_key (look_in e)
    have h4 : (a, b) = (ss[i']?.getD "", ss[j']?.getD "") := h4
    have h5 : x = (matAt M i' j').map boundC := h5
    rw [List.getElem?_eq_getElem h1, List.getElem?_eq_getElem h2] at h4
    have e1 : ss[i']? = some a := by rw [List.getElem?_eq_getElem h1]; exact congrArg (fun z : Str × Str => some z.1) h4.symm
    have e2 : ss[j']? = some b := by rw [List.getElem?_eq_getElem h2]; exact congrArg (fun z : Str × Str => some z.2) h4.symm
    have z1 := at_inj hn e1 ha
    have z2 := at_inj hn e2 hb
    subst z1 z2
    have hab : a ≠ b := fun z => by
      subst z
      exact h3 (at_inj hn e1 e2)
    rw [if_neg hab, h5]
    rfl
theorem subM_at {M : Mat} {ps : List Nat} {i j x y : Nat} (hx : ps[i]? = some x) (hy : ps[j]? = some y) : matAt (subM M ps) i j = matAt M x y := by
  have e : matAt (subM M ps) i j = (((ps.map fun i => ps.map fun j => matAt M i j)[i]?.getD [])[j]?).getD none := rfl
  rw [e, List.getElem?_map, hx]
  show (((ps.map fun j => matAt M x j))[j]?).getD none = _
  rw [List.getElem?_map, hy]
  rfl
theorem rep_nil {cs : List Str} (h : ("" : Str) ∉ cs) : rep cs "" = "" := by
  unfold rep
  rw [if_neg h]
theorem placesB_at {ns cs : List Str} (hc : ("" : Str) ∉ cs) {i x : Nat} {a : Str} (hx : (0 :: placesB ns cs)[i]? = some x) (ha : (spots ns)[i]? = some a) : (spots ns)[x]? = some (rep cs a) := by
  cases i with
  | zero =>
    cases hx
    cases ha
    rw [rep_nil hc]
    rfl
  | succ k =>
    have ha : ns[k]? = some a := ha
    have hx : (placesB ns cs)[k]? = some x := hx
    unfold placesB at hx
    have hk := (List.getElem?_eq_some_iff.mp ha).1
    rw [List.getElem?_map, List.getElem?_range hk] at hx
    have hx : (if ns[k]?.getD "" ∈ cs then 0 else k + 1) = x := Option.some.inj hx
    rw [ha] at hx
    have hx : (if a ∈ cs then 0 else k + 1) = x := hx
    unfold rep
    by_cases c : a ∈ cs
    · rw [if_pos c] at hx ⊢
      subst hx
      rfl
    · rw [if_neg c] at hx ⊢
      subst hx
      exact ha
theorem placesB_len {ns cs : List Str} : (placesB ns cs).length = ns.length := by
  unfold placesB
  rw [List.length_map, List.length_range]
theorem kept_places {ns cs : List Str} : keptN ns cs = ((List.range ns.length).filter fun i => decide ((ns[i]?.getD ("" : Str)) ∉ cs)).map fun i => ns[i]?.getD ("" : Str) := by
  have e : ns = (List.range ns.length).map fun i => ns[i]?.getD ("" : Str) := by
    refine List.ext_getElem? fun i => ?_
    rw [List.getElem?_map]
    by_cases h : i < ns.length
    · rw [List.getElem?_range h, List.getElem?_eq_getElem h]
      show _ = some (ns[i]?.getD "")
      rw [List.getElem?_eq_getElem h]
      rfl
    · rw [List.getElem?_eq_none (by omega), List.getElem?_eq_none (by rw [List.length_range]; omega)]
      rfl
  show ns.filter (fun x => decide (x ∉ cs)) = _
  conv => lhs; rw [e]
  rw [List.filter_map]
  rfl
theorem placesW_at {ns cs : List Str} {i x : Nat} {a : Str} (hx : (0 :: placesW ns cs)[i]? = some x) (ha : (spots (keptN ns cs))[i]? = some a) : (spots ns)[x]? = some a := by
  cases i with
  | zero =>
    cases hx
    exact ha
  | succ k =>
    have ha : (keptN ns cs)[k]? = some a := ha
    have hx : (placesW ns cs)[k]? = some x := hx
    rw [kept_places, List.getElem?_map] at ha
    unfold placesW at hx
    rw [List.getElem?_map] at hx
    cases e : ((List.range ns.length).filter fun i => decide ((ns[i]?.getD ("" : Str)) ∉ cs))[k]? with
    | none => rw [e] at hx; cases hx
    | some t =>
      rw [e] at hx ha
      have hx : t + 1 = x := Option.some.inj hx
      have ha : ns[t]?.getD "" = a := Option.some.inj ha
      have ht := List.mem_of_getElem? e
      have ht := List.mem_range.mp (List.mem_filter.mp ht).1
      subst hx
      show ns[t]? = some a
      rw [List.getElem?_eq_getElem ht] at ha ⊢
      exact congrArg some ha
theorem look_rest {cs : List Str} {m : List (Pr × Bd)} {x y : Str} (hx : x ∉ cs) (hy : y ∉ cs) : look (restM cs m) (x, y) = look m (x, y) := by
  unfold restM
  induction m with
  | nil => rfl
  | cons e m ih =>
    rw [List.filter_cons]
    by_cases c : e.1 = (x, y)
    · rw [if_pos (decide_eq_true (by rw [c]; exact ⟨hx, hy⟩)), look_pos c, look_pos c]
    · rw [look_neg c]
      split
      · rw [look_neg c]
        exact ih
      · exact ih
theorem look_nought {cs : List Str} {m : List (Pr × Bd)} {ps : List Pr} {p : Pr} (h : p ∈ ps) : look (noughtL cs m ps) p = atN cs m p := by
  cases e : look (noughtL cs m ps) p with
  | some b => exact (noughtL_key (look_in e)).2.symm
  | none =>
    cases e2 : atN cs m p with
    | none => rfl
    | some b =>
      have hm : (p, b) ∈ noughtL cs m ps := by
        unfold noughtL
        exact List.mem_filterMap.mpr ⟨p, h, by rw [e2]; rfl⟩
      exact absurd e (look_mem hm)
theorem look_ways {c : Str → Str → Code'} {ss : List Str} (hn : ss.Nodup) {x y : Str} (h : (x, y) ∈ prsOf ss) : look (waysL c ss (prsOf ss)) (x, y) = (W c ss x y).map boundC := by
  cases e : W c ss x y with
  | none =>
    refine look_none fun z hz e2 => ?_
    obtain ⟨_, k, e3, _⟩ := waysL_key hz
    rw [e2, e] at e3
    cases e3
  | some k => exact look_of (waysL_nd (prsOf_nd hn hn)) (waysL_in (p := (x, y)) h e)
theorem opt_get {x : Option Bd} : (x.map some).getD none = x := by cases x <;> rfl
theorem kept_len {ns : List Str} : (spots ns).length = ns.length + 1 := List.length_cons ..
/-- begun: what is told and what is due -/
theorem begun_eq {ns cs : List Str} {c : Str → Str → Code'} {M' : Mat} (hn : (spots ns).Nodup) (hc : ("" : Str) ∉ cs) (hM : ∀ i j a b, (spots ns)[i]? = some a → (spots ns)[j]? = some b → matAt M' i j = if a = b then some 1 else W c (spots ns) a b) :
    boundM ns (subM M' (0 :: placesB ns cs)) = keptB (optM (restM cs (waysL c (spots ns) (prsOf (spots ns))) ++ noughtL cs (waysL c (spots ns) (prsOf (spots ns))) (prsOf (spots ns)))) (crossP (spots ns) (spots ns)) := by
  unfold boundM
  refine keptB_congr fun p hp => ?_
  obtain ⟨a, b⟩ := p
  obtain ⟨ham, hbm⟩ := mem_crossP.mp hp
  have ham : a ∈ spots ns := ham
  have hbm : b ∈ spots ns := hbm
  obtain ⟨i, hi, ea⟩ := List.mem_iff_getElem.mp ham
  obtain ⟨j, hj, eb⟩ := List.mem_iff_getElem.mp hbm
  have ha : (spots ns)[i]? = some a := by rw [List.getElem?_eq_getElem hi, ea]
  have hb : (spots ns)[j]? = some b := by rw [List.getElem?_eq_getElem hj, eb]
  rw [← kept_len, look_hand hn ha hb, look_opt, opt_get, look_app]
  by_cases hab : a = b
  · rw [if_pos hab, look_none fun e he z => ?_, look_none fun e he z => ?_]
    · have z2 := (noughtL_key he).1
      rw [z] at z2
      exact (prsOf_iff.mp z2).2.2 hab
    · have z2 := (waysL_key (restM_key he).1).1
      rw [z] at z2
      exact (prsOf_iff.mp z2).2.2 hab
  rw [if_neg hab]
  have hpr : (a, b) ∈ prsOf (spots ns) := prsOf_iff.mpr ⟨ham, hbm, hab⟩
  have hpl : (0 :: placesB ns cs).length = ns.length + 1 := by rw [List.length_cons, placesB_len]
  have hi2 : i < (0 :: placesB ns cs).length := by rw [hpl, ← kept_len]; exact hi
  have hj2 : j < (0 :: placesB ns cs).length := by rw [hpl, ← kept_len]; exact hj
  have hx := List.getElem?_eq_getElem hi2
  have hy := List.getElem?_eq_getElem hj2
  rw [subM_at hx hy, hM _ _ _ _ (placesB_at hc hx ha) (placesB_at hc hy hb)]
  have rin : ∀ x, x ∈ spots ns → rep cs x ∈ spots ns := fun x hx => by
    unfold rep
    split
    · exact List.mem_cons_self
    · exact hx
  by_cases hor : a ∈ cs ∨ b ∈ cs
  · rw [look_none (m := restM cs _) fun e he z => ?_, look_nought hpr]
    · show _ = atN cs _ (a, b)
      unfold atN
      rw [if_pos hor]
      by_cases hr : rep cs a = rep cs b
      · rw [if_pos hr, if_pos hr]
        rfl
      · rw [if_neg hr, if_neg hr, look_rest (rep_out hc) (rep_out hc), look_ways hn (prsOf_iff.mpr ⟨rin a ham, rin b hbm, hr⟩)]
    · obtain ⟨_, h1, h2⟩ := restM_key he
      rw [z] at h1 h2
      exact hor.elim h1 h2
  · have ha' : a ∉ cs := fun z => hor (.inl z)
    have hb' : b ∉ cs := fun z => hor (.inr z)
    have ra : rep cs a = a := by unfold rep; rw [if_neg ha']
    have rb : rep cs b = b := by unfold rep; rw [if_neg hb']
    rw [ra, rb, if_neg hab, look_rest ha' hb', look_ways hn hpr, look_nought hpr]
    have hat : atN cs (waysL c (spots ns) (prsOf (spots ns))) (a, b) = none := by unfold atN; rw [if_neg hor]
    rw [hat]
    cases W c (spots ns) a b <;> rfl
/-- without: what is told and what is due -/
theorem without_eq {ns cs : List Str} {c : Str → Str → Code'} {M' : Mat} (hn : (spots ns).Nodup) (hc : ("" : Str) ∉ cs) (hM : ∀ i j a b, (spots ns)[i]? = some a → (spots ns)[j]? = some b → matAt M' i j = if a = b then some 1 else W c (spots ns) a b) :
    boundM (keptN ns cs) (subM M' (0 :: placesW ns cs)) = keptB (optM (restM cs (waysL c (spots ns) (prsOf (spots ns))))) (crossP (spots (keptN ns cs)) (spots (keptN ns cs))) := by
  unfold boundM
  have hkn : (spots (keptN ns cs)).Nodup := hn.sublist (List.Sublist.cons₂ _ (List.filter_sublist (l := ns)))
  refine keptB_congr fun p hp => ?_
  obtain ⟨a, b⟩ := p
  obtain ⟨ham, hbm⟩ := mem_crossP.mp hp
  have ham : a ∈ spots (keptN ns cs) := ham
  have hbm : b ∈ spots (keptN ns cs) := hbm
  obtain ⟨i, hi, ea⟩ := List.mem_iff_getElem.mp ham
  obtain ⟨j, hj, eb⟩ := List.mem_iff_getElem.mp hbm
  have ha : (spots (keptN ns cs))[i]? = some a := by rw [List.getElem?_eq_getElem hi, ea]
  have hb : (spots (keptN ns cs))[j]? = some b := by rw [List.getElem?_eq_getElem hj, eb]
  rw [← kept_len, look_hand hkn ha hb, look_opt, opt_get]
  by_cases hab : a = b
  · rw [if_pos hab, look_none fun e he z => ?_]
    have z2 := (waysL_key (restM_key he).1).1
    rw [z] at z2
    exact (prsOf_iff.mp z2).2.2 hab
  rw [if_neg hab]
  have hpl : (0 :: placesW ns cs).length = (keptN ns cs).length + 1 := by rw [List.length_cons, placesW_len]
  have hi2 : i < (0 :: placesW ns cs).length := by rw [hpl, ← kept_len]; exact hi
  have hj2 : j < (0 :: placesW ns cs).length := by rw [hpl, ← kept_len]; exact hj
  have hx := List.getElem?_eq_getElem hi2
  have hy := List.getElem?_eq_getElem hj2
  rw [subM_at hx hy, hM _ _ _ _ (placesW_at hx ha) (placesW_at hy hb), if_neg hab]
  have out : ∀ x, x ∈ spots (keptN ns cs) → x ∉ cs ∧ x ∈ spots ns := fun x hx => by
    rcases List.mem_cons.mp hx with rfl | hx
    · exact ⟨hc, List.mem_cons_self⟩
    · obtain ⟨h1, h2⟩ := List.mem_filter.mp hx
      exact ⟨of_decide_eq_true h2, List.mem_cons_of_mem _ h1⟩
  rw [look_rest (out a ham).1 (out b hbm).1, look_ways hn (prsOf_iff.mpr ⟨(out a ham).2, (out b hbm).2, hab⟩)]
end Rw
set_option Elab.async false
set_option linter.all false
set_option maxRecDepth 100000
set_option maxHeartbeats 8000000
namespace Rw
open PySem L2
abbrev sLaw : Stmt := top 57
def nLaw : List Str := ["_law_script", "_law_turn", "_law_pool_here", "_law_names_here", "_law_bounds", "_law_table_here", "_law_ways_here", "_law_some", "_law_handed_here", "_law_due", "_law_rest_here", "_law_odd", "_law_wrong", "_law_found", "_law_name"]
theorem scLaw : FnScope nLaw ["_law_script"] (defScope sLaw) := ⟨rfl, rfl, rfl, by decide +kernel, rfl, by decide +kernel, by decide +kernel⟩
/-- a helper, known by its name -/
structure Got (P : Program) (w : World) (K : PySem.W.Frag) (mg : Str → Option Value) (base : Heap) (CX : CXT) (k : Nat) (x : Str) (ps : List Str) (sp : Sp) (f : Addr) (fd : FuncData) : Prop where
  G : FnOk P w K mg base CX k f fd ps sp
  b : Binds K fd ps []
  k : PySem.W.keepIn K (.ref f) = true
  m : mg x = some (.ref f)
end Rw
set_option Elab.async false
set_option linter.all false
set_option maxRecDepth 100000
set_option maxHeartbeats 8000000
namespace Rw
open PySem L2
section
variable {P : Program} {w : World} {K : PySem.W.Frag} {mg : Str → Option Value} {base : Heap}
/-- begun and without, called with a good choice, let nothing out -/
theorem passNo {X : Cx} {P : Program} {w : World} : Passes (L2.CX P w) X E0 := fun _ _ _ _ _ _ _ h => by
  obtain ⟨_, _, _, _, _, _, _, _, _, _, _, _, z⟩ := h
  exact z.elim
abbrev lawFor : List Stmt := match defBody sLaw with
  | (.For (body := b) ..) :: _ => b
  | _ => []
theorem ps_law1 {fl fC fP fN fO fD fT fW fM fK fB fH fR : Addr} {dC dP dN dO dD dT dW dM dK dB dH dR fdl : FuncData} {cdv : Value} {A : Around} {outer : List Env} {s : Shared} {H : Hp} {E : XK}
    (gC : Got P w K mg base CX0 1 "_law_cell" ["_law_script", "_law_k"] (spCell K) fC dC) (gP : Got P w K mg base CX0 1 "_law_pool" ["_law_cell_here"] spPool fP dP) (gN : Got P w K mg base CX0 3 "_law_names" ["_law_pool_here", "_law_many"] spNames fN dN)
    (gO : Got P w K mg base CX0 2 "_law_one" ["_law_pool_here", "_law_things"] (spOne K) fO dO) (gD : Got P w K mg base CX0 3 "_law_drawn" ["_law_pool_here", "_law_names_here"] (spDrawn K) fD dD) {C : Addr} (gT : Got P w K mg base CX0 6 "_law_table" nTable (spTable K C) fT dT)
    (gW : Got P w K mg base CX0 8 "_law_ways" ["_law_bounds", "_law_ones"] (spWays K) fW dW) (gM : Got P w K mg base CX0 2 "_law_mixed" ["_law_pool_here", "_law_things"] (spMixed K) fM dM) (gK : Got P w K mg base CX0 1 "_law_take" ["_law_pool_here", "_law_many"] spTake fK dK)
    (ml : mg "len" = none) (mk : mg "list" = none) (mt : mg "tuple" = none) (hr : Room 12 (A.deeper (PyProof.Rows.envOfC "law" (defScope sLaw) s.heap.objs.size fl cdv))) :
    ∃ t, PSs (cxOf CX0 P w K mg base nLaw "law" (defScope sLaw) fl cdv A outer s H E).nox (lawFor.take 7) t := by
  refine ⟨_, pss_cons (ps_set (i := 2) scLaw.nd rfl (Or.inl rfl) (pe_call gP.G (hr.mono (by decide)) rfl gP.m gP.k gP.b .nil pass0 (pa_cons (pe_op op_add (pe_call gC.G (hr.mono (by decide)) rfl gC.m gC.k gC.b .nil pass0 (pa_cons (pv 0) (pa_cons (pv 1) pa_nil))) (pv 1)) pa_nil)))
    (pss_cons (ps_set (i := 3) scLaw.nd rfl (Or.inl rfl) (pe_call gN.G (hr.mono (by decide)) rfl gN.m gN.k gN.b .nil pass0 (pa_cons (pv 2) (pa_cons (pe_call gO.G (hr.mono (by decide)) rfl gO.m gO.k gO.b .nil pass0 (pa_cons (pv 2) (pa_cons (pe_lst (pa_cons pe_int (pa_cons pe_int (pa_cons pe_int (pa_cons pe_int (pa_cons pe_int (pa_cons pe_int pa_nil))))))) pa_nil))) pa_nil))))
    (pss_cons (ps_set (i := 4) scLaw.nd rfl (Or.inl rfl) (pe_call gD.G (hr.mono (by decide)) rfl gD.m gD.k gD.b .nil pass0 (pa_cons (pv 2) (pa_cons (pv 3) pa_nil))))
    (pss_cons (ps_asg (pe_tup (pa_cons (pe_call gT.G (hr.mono (by decide)) rfl gT.m gT.k gT.b .nil pass0 (pa_cons (pv 2) (pa_cons (pv 3) (pa_cons (pv 4) pa_nil)))) (pa_cons (pe_call gW.G (hr.mono (by decide)) rfl gW.m gW.k gW.b .nil pass0 (pa_cons (pv 4) (pa_cons (pe_op op_cat (pe_lst (pa_cons pe_str pa_nil)) (pv 3)) pa_nil))) pa_nil)))
        (pg_tup rfl (pgs_cons (pg_name (i := 5) scLaw.nd rfl (Or.inr rfl)) (pgs_cons (pg_name (i := 6) scLaw.nd rfl (Or.inl rfl)) pgs_nil))))
    (pss_cons (ps_set (i := 7) scLaw.nd rfl (Or.inr rfl) (pe_slice sl_list (pe_call gM.G (hr.mono (by decide)) rfl gM.m gM.k gM.b .nil pass0 (pa_cons (pv 2) (pa_cons (pv 3) pa_nil))) po_none (po_some (pe_call gK.G (hr.mono (by decide)) rfl gK.m gK.k gK.b .nil pass0 (pa_cons (pv 2) (pa_cons (pe_op op_add (pe_callB call_len_seq rfl ml PySem.boot_len (pa_cons (pv 3) pa_nil)) pe_int) pa_nil))))))
    (pss_cons (ps_set (i := 8) scLaw.nd rfl (Or.inl rfl) (pe_call gO.G (hr.mono (by decide)) rfl gO.m gO.k gO.b .nil pass0 (pa_cons (pv 2) (pa_cons (pe_lst (pa_cons (pe_callTy call_list_of rfl mk PyProof.Rows.boot_list (pa_cons (pv 7) pa_nil)) (pa_cons (pe_callTy (call_tupOf (K := K) rfl) rfl mt PyProof.Rows.boot_tuple (pa_cons (pv 7) pa_nil)) pa_nil))) pa_nil))))
    (pss_one (ps_asg (pe_tup (pa_cons pe_non (pa_cons pe_non pa_nil))) (pg_tup rfl (pgs_cons (pg_name (i := 9) scLaw.nd rfl (Or.inl rfl)) (pgs_cons (pg_name (i := 10) scLaw.nd rfl (Or.inl rfl)) pgs_nil))))))))))⟩
end
end Rw
set_option Elab.async false
set_option linter.all false
set_option maxRecDepth 100000
set_option maxHeartbeats 600000
namespace Rw
open PySem L2
section
variable {P : Program} {w : World} {K : PySem.W.Frag} {mg : Str → Option Value} {base : Heap}
theorem scMet : FnScope ["_law_ask", "e"] ["_law_ask"] (defScope sMet) := ⟨rfl, rfl, rfl, by decide +kernel, rfl, by decide +kernel, by decide +kernel⟩
theorem pe_lamF {X : Cx} {st : Stmt} {fd : FuncData} {T : List (Addr × Str)} {TT : (XK → Hp → VK → Prop) → Hp → VK → Prop} {x a : Str} {g c P : Addr} {k : Nat} {Ng : List Str} {params : Arguments} {body : Expr} {scope : Scope} {t : XK → TE} {p lpos pos : Pos} (FM : Fun X.K x x st g fd) (hb : L2.Binds X.K fd [a] []) (hg : Gl X x) (hm : X.mg x = some (.ref g))
    (Sg : FnScope Ng [a] (defScope st)) (hNg : Ng[0]? = some a) (hva : Vis (defScope st) a) (hG : ∀ cdv, LamX.GivesTo X Ng x (defScope st) g cdv (defBody st) a (X.env.qual ++ "<lambda>") TT)
    (TB : LamX.TabB X.base X.mg c P) (hcode : X.env.code = .ref c) (hT : T = [(P, X.env.qual ++ "<lambda>")]) (hr : Room (k + 2) X.A) (L : LamX.LamS X.env.scope scope) (hdef : defaultsOf params X.env = ([], []))
    (hbind : ∀ (q : Str) (cl : List (Str × Addr)) (pm cv ctv : Value), bindArgs (PySem.W.kla_fn "<lambda>" q params body scope cl pm cv ctv) ⟨[], []⟩ = pure [])
    (hbody : ∀ (A : Around) (outer : List Env) (s : Shared) (H : Hp) (E : XK) (f c' : Addr), Room k (A.deeper (LamX.lamEnv X scope s.heap.objs.size f c')) → PE (LamX.lamCx X A outer s H E scope f c') body (t E))
    (hdb : (x == ("__debug__" : Str)) = false := by decide) (hd : (a == ("__debug__" : Str)) = false := by decide) (hcd : (a == ("__classdict__" : Str)) = false := by decide) :
    PE X (.Call (.Name x p) [.Lambda params body scope lpos] [] pos) (LamX.tLam T TT t) := by
  obtain ⟨oc, od, kV, doc, pm, an, cdv, ct, osl, rfl, lk, hcg⟩ := FM.ex
  subst hT
  exact LamX.pe_lamcall (k := k) hg hm FM.kp lk hcg hb Sg hNg hva (hG cdv) TB hcode (List.mem_singleton.mpr rfl) (fun p hp _ => by cases List.mem_singleton.mp hp; rfl) hr L hdef hbind hbody hdb hd hcd
theorem ps_law3 {fl fM fB fX C CE c Pt : Addr} {dM dB dX : FuncData} {A : Around} {outer : List Env} {s : Shared} {H : Hp} {E : XK}
    (FM : Fun K "_law_met" "_law_met" sMet fM dM) (bM : Binds K dM ["_law_ask"] []) (mM : mg "_law_met" = some (.ref fM)) (TB : LamX.TabB base mg c Pt) (mE : mg "BadNames" = some (.ref CE)) (T : XfC K CE) (hno : PySem.W.findIn K (.ref CE) "index" = some none) (hx1 : PySem.W.exmOne K (.ref CE) (.ref CE) = some true)
    (gB : Got P w K mg base (L2.CX P w) 8 "begun" ["table", "names"] (spChange K C CE (fun ns _ => ns) placesB) fB dB) (gX : Got P w K mg base (L2.CX P w) 8 "without" ["table", "names"] (spChange K C CE keptN placesW) fX dX)
    (hr : Room 12 (A.deeper (PyProof.Rows.envOfC "law" (defScope sLaw) s.heap.objs.size fl (.ref c)))) :
    ∃ t, PSs (cxOf CX0 P w K mg base nLaw "law" (defScope sLaw) fl (.ref c) A outer s H E).nox ((lawFor.drop 11).take 1) t := by
  have hu := hu_of hr
  refine ⟨_, pss_one (ps_set (i := 13) scLaw.nd rfl (Or.inl rfl) (pe_lst (pa_cons
    (pe_lamF (k := 9) (TT := TMet CE) FM bM rfl mM scMet rfl (Or.inl rfl) (fun _ => met_gives mE T hno hx1 _) TB rfl rfl (hr.mono (by decide)) (LamX.lamS_by (sc := defScope sLaw) (by decide +kernel)) rfl (fun _ _ _ _ _ => rfl)
      (fun A o s H E f c' hr => pe_callS gB.G (hr.mono (by decide)) rfl gB.m gB.k gB.b (fun σ => passAt (takes_of rfl rfl rfl rfl) σ) (pa_cons (pv 5) (pa_cons (pe_op op_cat (pv 7) (pe_lst (pa_cons (pv 11) (pa_cons pe_non pa_nil)))) pa_nil)))) pa_nil)))⟩
end
end Rw
set_option Elab.async false
set_option linter.all false
set_option maxRecDepth 100000
set_option maxHeartbeats 4000000
namespace Rw
open PySem L2
/-! ### what the law's loop holds, apart from the pool -/
theorem lst_apart {H : Hp} {l p : Addr} {n : Nat} {ns : List Str} (h : H l = some (.lst (ns.map V.str))) (hP : Pool H p n) : l ≠ p := by
  obtain ⟨a, b, c, e, _⟩ := hP
  refine ne_of h e fun z => ?_
  injection z with z
  cases ns with
  | nil => cases z
  | cons x ns => injection z with z _; cases z
theorem sqT_pool {K : PySem.W.Frag} {H H' : Hp} {p a : Addr} {n : Nat} {xs : List V} (b : But p H H') (hP : Pool H p n) (h : SqT K H a xs) : SqT K H' a xs := by
  obtain ⟨ys, hp⟩ := hP.some
  rcases h with (h | ⟨o, h⟩) | h
  · exact .inl (.inl (b _ _ h (ne_of h hp fun z => nomatch z)))
  · exact .inl (.inr ⟨o, b _ _ h (ne_of h hp fun z => nomatch z)⟩)
  · exact .inr h
theorem Tab.but {K : PySem.W.Frag} {C : Addr} {H H' : Hp} {p t : Addr} {n : Nat} {ns : List Str} {m : List (Pr × Bd)} (h : Tab K C H t ns m) (hP : Pool H p n) (b : But p H H') : Tab K C H' t ns m := by
  obtain ⟨ok, dx, l, d, e1, e2, kvs, e3, r⟩ := h
  obtain ⟨ys, hp⟩ := hP.some
  refine ⟨ok, dx, l, d, b _ _ e1 (ne_of e1 hp fun z => nomatch z), b _ _ e2 (lst_apart e2 hP), kvs, b _ _ e3 (ne_of e3 hp fun z => nomatch z), Rw.Paired.imp r fun x y _ z => ⟨z.1, ?_⟩⟩
  obtain ⟨a, ea, h⟩ := z.2
  exact ⟨a, ea, sqT_pool b hP h⟩
theorem DT.but {H H' : Hp} {p d : Addr} {n : Nat} {m : List (Pr × Bd)} (h : DT RB H d m) (hP : Pool H p n) (b : But p H H') : DT RB H' d m := by
  obtain ⟨ys, hp⟩ := hP.some
  refine h.mono (fun o e => ?_) fun v c z => z.mono (b.tk hP)
  obtain ⟨kvs, e3, _⟩ := h
  exact b _ _ e (ne_of e3 hp fun z => nomatch z)
/-! ### the codes of the table that was drawn -/
theorem look_kept {m : List (Pr × Option Bd)} {p : Pr} : ∀ {ps : List Pr}, look (keptB m ps) p = if p ∈ ps then (look m p).getD none else none
  | [] => rfl
  | q :: ps => by
    have ih := look_kept (m := m) (p := p) (ps := ps)
    unfold keptB at ih ⊢
    rw [List.filterMap_cons]
    by_cases c : q = p
    · subst c
      rw [if_pos List.mem_cons_self]
      cases e : (look m q).getD none with
      | none =>
        show look (List.filterMap _ ps) q = none
        rw [ih, e]
        split <;> rfl
      | some b => exact look_pos rfl
    · have hm : (p ∈ q :: ps) ↔ p ∈ ps := ⟨fun h => (List.mem_cons.mp h).resolve_left fun z => c z.symm, List.mem_cons_of_mem _⟩
      cases e : (look m q).getD none with
      | none =>
        show look (List.filterMap _ ps) p = _
        rw [ih]
        by_cases z : p ∈ ps
        · rw [if_pos z, if_pos (hm.mpr z)]
        · rw [if_neg z, if_neg fun y => z (hm.mp y)]
      | some b =>
        show look ((q, b) :: List.filterMap _ ps) p = _
        rw [look_neg c, ih]
        by_cases z : p ∈ ps
        · rw [if_pos z, if_pos (hm.mpr z)]
        · rw [if_neg z, if_neg fun y => z (hm.mp y)]
theorem codeM_kept {ns : List Str} {m : List (Pr × Bd)} (hg : GoodB (spots ns) m) : codeM (keptB (optM m) (crossP (spots ns) (spots ns))) = codeM m := by
  funext a b
  unfold codeM
  rw [look_kept, look_opt, opt_get]
  split
  · rfl
  · rename_i h
    rw [look_none fun e he z => h (mem_crossP.mpr ?_)]
    have k := hg.keys e he
    rw [z] at k
    exact ⟨k.1, k.2.1⟩
theorem edge_good {ns : List Str} {m : List (Pr × Bd)} (hg : GoodB (spots ns) m) : Edge (codeM m) (spots ns) := fun x y v h => by
  unfold codeM at h
  cases e : look m (x, y) with
  | none => rw [e] at h; cases h
  | some b => exact hg.keys _ (look_in e)
abbrev wsOf (ns : List Str) (m : List (Pr × Bd)) : List (Pr × Bd) := waysL (codeM m) (spots ns) (prsOf (spots ns))
abbrev dueB (ns cs : List Str) (m : List (Pr × Bd)) : List (Pr × Bd) := keptB (optM (restM cs (wsOf ns m) ++ noughtL cs (wsOf ns m) (prsOf (spots ns)))) (crossP (spots ns) (spots ns))
abbrev dueW (ns cs : List Str) (m : List (Pr × Bd)) : List (Pr × Bd) := keptB (optM (restM cs (wsOf ns m))) (crossP (spots (keptN ns cs)) (spots (keptN ns cs)))
abbrev tabM (ns : List Str) (m : List (Pr × Bd)) : List (Pr × Bd) := keptB (optM m) (crossP (spots ns) (spots ns))
theorem told_law {ns : List Str} {m : List (Pr × Bd)} (hd : Drawn ns) (hg : GoodB (spots ns) m) :
    (shutM (ns.length + 1) (gridM ns (tabM ns m)) = none ∧ LawBad (codeM m) (spots ns)) ∨ ∃ M', shutM (ns.length + 1) (gridM ns (tabM ns m)) = some M' ∧ ¬ LawBad (codeM m) (spots ns) ∧
      ∀ i j a b, (spots ns)[i]? = some a → (spots ns)[j]? = some b → matAt M' i j = if a = b then some 1 else W (codeM m) (spots ns) a b :=
  shut_law kept_len hd.nd (edge_good hg) (Nat.succ_pos _) gridM_sq fun i j a b ha hb => by rw [gridM_at ha hb, codeM_kept hg]
theorem Told.begun {K : PySem.W.Frag} {C : Addr} {ns cs : List Str} {m : List (Pr × Bd)} {u : V} {H' : Hp} (hd : Drawn ns) (hg : GoodB (spots ns) m) (hc : ("" : Str) ∉ cs) (h : Told K C ns ns (tabM ns m) (placesB ns cs) u H') :
    (LawBad (codeM m) (spots ns) ∧ u = .non) ∨ (¬ LawBad (codeM m) (spots ns) ∧ ∃ t, u = .ref t ∧ Tab K C H' t ns (dueB ns cs m)) := by
  rcases told_law hd hg with ⟨e, hb⟩ | ⟨M', e, hb, hM⟩
  · rcases h with ⟨_, eu⟩ | ⟨t, M', e2, _⟩
    · exact .inl ⟨hb, eu⟩
    · rw [e] at e2; cases e2
  · rcases h with ⟨e2, _⟩ | ⟨t, M2, e2, eu, hT⟩
    · rw [e] at e2; cases e2
    · rw [e] at e2
      cases e2
      refine .inr ⟨hb, t, eu, ?_⟩
      rw [begun_eq hd.nd hc hM] at hT
      exact hT
theorem Told.without {K : PySem.W.Frag} {C : Addr} {ns cs : List Str} {m : List (Pr × Bd)} {u : V} {H' : Hp} (hd : Drawn ns) (hg : GoodB (spots ns) m) (hc : ("" : Str) ∉ cs) (h : Told K C ns (keptN ns cs) (tabM ns m) (placesW ns cs) u H') :
    (LawBad (codeM m) (spots ns) ∧ u = .non) ∨ (¬ LawBad (codeM m) (spots ns) ∧ ∃ t, u = .ref t ∧ Tab K C H' t (keptN ns cs) (dueW ns cs m)) := by
  rcases told_law hd hg with ⟨e, hb⟩ | ⟨M', e, hb, hM⟩
  · rcases h with ⟨_, eu⟩ | ⟨t, M', e2, _⟩
    · exact .inl ⟨hb, eu⟩
    · rw [e] at e2; cases e2
  · rcases h with ⟨e2, _⟩ | ⟨t, M2, e2, eu, hT⟩
    · rw [e] at e2; cases e2
    · rw [e] at e2
      cases e2
      refine .inr ⟨hb, t, eu, ?_⟩
      rw [without_eq hd.nd hc hM] at hT
      exact hT
theorem restM_nil {m : List (Pr × Bd)} : restM [] m = m := List.filter_eq_self.mpr fun e _ => decide_eq_true ⟨List.not_mem_nil, List.not_mem_nil⟩
theorem noughtL_nil {m : List (Pr × Bd)} {ps : List Pr} : noughtL [] m ps = [] := by
  cases h : noughtL [] m ps with
  | nil => rfl
  | cons e r =>
    have z := atN_in (noughtL_key (h ▸ List.mem_cons_self : e ∈ noughtL [] m ps)).2
    exact absurd z fun z => z.elim List.not_mem_nil List.not_mem_nil
theorem dueB_nil {ns : List Str} {m : List (Pr × Bd)} : dueB ns [] m = keptB (optM (wsOf ns m)) (crossP (spots ns) (spots ns)) := by
  show keptB (optM (restM [] _ ++ noughtL [] _ _)) _ = _
  rw [restM_nil, noughtL_nil, List.append_nil]
theorem keptN_all {ns : List Str} : keptN ns ns = [] := List.filter_eq_nil_iff.mpr fun x hx z => of_decide_eq_true z hx
/-! ### what is due can be made, and what is told is alike -/
theorem wsOf_keys {ns cs : List Str} {m : List (Pr × Bd)} : ∀ e ∈ restM cs (wsOf ns m), e.1 ∈ prsOf (spots ns) ∧ e.1.1 ∉ cs ∧ e.1.2 ∉ cs := fun e he => by
  have z := restM_key he
  exact ⟨(waysL_key z.1).1, z.2⟩
theorem prs_spots {ns : List Str} {p : Pr} (h : p ∈ prsOf (spots ns)) : p.1 ∈ spots ns ∧ p.2 ∈ spots ns ∧ p.1 ≠ p.2 := by
  obtain ⟨a, b⟩ := p
  exact prsOf_iff.mp h
theorem prs_few {ns : List Str} (h : ns.length ≤ 7) : (prsOf (spots ns)).length ≤ 64 := by
  have z := prsOf_len (spots ns) (spots ns)
  rw [List.length_cons] at z
  exact Nat.le_trans z (Nat.mul_le_mul (by omega : ns.length + 1 ≤ 8) (by omega : ns.length + 1 ≤ 8))
theorem wsOf_few {ns : List Str} {m : List (Pr × Bd)} (h : ns.length ≤ 7) : (wsOf ns m).length ≤ 64 := Nat.le_trans waysL_len (prs_few h)
theorem optM_keys {m : List (Pr × Bd)} {F : Pr → Prop} (h : ∀ e ∈ m, F e.1) : ∀ e ∈ optM m, F e.1 := fun e he => by
  unfold optM at he
  obtain ⟨e', he', rfl⟩ := List.mem_map.mp he
  exact h e' he'
theorem DT.opt {K : PySem.W.Frag} {H : Hp} {d : Addr} {m : List (Pr × Bd)} (h : DT (RW K) H d m) : DT (RO K) H d (optM m) := by
  obtain ⟨kvs, e, z⟩ := h
  refine ⟨kvs, e, ?_⟩
  unfold optM
  refine paired_map (f := fun e : Pr × Bd => (e.1, some e.2)) (F := fun e kv => kv.1 = key2 e.1 ∧ RO K H kv.2 e.2) (Rw.Paired.imp z fun e kv _ y => ⟨y.1, ?_⟩)
  obtain ⟨a, ea, ht⟩ := y.2
  exact .inr ⟨e.2, a, rfl, ea, .inr ht⟩
theorem makes_of {K : PySem.W.Frag} {H : Hp} {a d : Addr} {ns ms : List Str} {m : List (Pr × Bd)} (hd : Drawn ns) (hs : ms.Sublist ns) (h : TxS K H a ms) (hD : DT (RW K) H d m) (hk : ∀ e ∈ m, e.1.1 ∈ spots ms ∧ e.1.2 ∈ spots ms ∧ e.1.1 ≠ e.1.2) (hf : m.length ≤ 1000) : Makes K H a d ms (optM m) :=
  ⟨h, hd.nd.sublist (List.Sublist.cons₂ _ hs), fun x hx => ⟨nameB_menu x (hd.sub x (hs.subset hx)), Nat.le_trans (len_menu x (hd.sub x (hs.subset hx))) (by decide)⟩, fun x hx => strOk_menu x (hd.sub x (hs.subset hx)), Nat.le_trans hs.length_le (Nat.le_trans hd.few (by decide)), hD.opt,
    optM_keys (F := fun p => p.1 ∈ spots ms ∧ p.2 ∈ spots ms ∧ p.1 ≠ p.2) hk, by unfold optM; rw [List.length_map]; exact hf⟩
theorem rtab_same {K : PySem.W.Frag} {C a b : Addr} {H : Hp} {ns : List Str} {m : List (Pr × Bd)} (h1 : Tab K C H a ns m) (h2 : Tab K C H b ns m) : RTab K C a b H :=
  ⟨ns, m, m, h1, h2, rfl, fun e he => look_of h1.1.kn he⟩
theorem dins_same {K : PySem.W.Frag} {C a b : Addr} {H : Hp} {ns : List Str} {m : List (Pr × Bd)} (h1 : Tab K C H a ns m) (h2 : Tab K C H b ns m) : DIns C (RTab K C) (.ref a) (.ref b) H := by
  obtain ⟨_, dx, l, d, e, _⟩ := id h1
  obtain ⟨_, dx', l', d', e', _⟩ := id h2
  exact ⟨a, b, dx, dx', _, _, rfl, rfl, e, e', rtab_same h1 h2⟩
end Rw
set_option Elab.async false
set_option linter.all false
set_option maxRecDepth 100000
set_option maxHeartbeats 4000000
namespace Rw
open PySem L2
/-! ### the law's loop, first part: what is drawn -/
theorem drawn_of {ns : List Str} (h1 : ns.Nodup) (h2 : ∀ x ∈ ns, x ∈ menu) (h3 : ns.length ≤ 7) : Drawn ns :=
  ⟨List.nodup_cons.mpr ⟨fun h => absurd (h2 _ h) (by decide +kernel), h1⟩, h2, h3⟩
section
variable {P : Program} {w : World} {K : PySem.W.Frag} {mg : Str → Option Value} {base : Heap}
/-- a promise in other words -/
theorem FnOk.way {CX : CXT} {n : Nat} {f : Addr} {fd : FuncData} {ps : List Str} {sp sp' : Sp} (G : FnOk P w K mg base CX n f fd ps sp) (h : ∀ vs H Q E, sp' vs H Q E → sp vs H Q E) : FnOk P w K mg base CX n f fd ps sp' :=
  ⟨fun vs H Q E z => G.len vs H Q E (h _ _ _ _ z), fun A outer s H args us vs Q E hr e0 hb r z => G.run A outer s H args us vs Q E hr e0 hb r (h _ _ _ _ z)⟩
def WaysV (ns : List Str) (m : List (Pr × Bd)) (v : V) (H : Hp) : Prop := (LawBad (codeM m) (spots ns) ∧ v = .non) ∨ (¬ LawBad (codeM m) (spots ns) ∧ ∃ r, v = .ref r ∧ DT RB H r (wsOf ns m))
def spWays2 (K : PySem.W.Frag) : Sp := fun vs H Q _ => ∃ (d l : Addr) (m : List (Pr × Bd)) (ns : List Str), vs = [.ref d, .ref l] ∧ DT RB H d m ∧ Mk m ∧ SqL K H l ((spots ns).map V.str) ∧ (spots ns).Nodup ∧ (spots ns).length ≤ 5 ∧ ∀ v H', Same H H' → WaysV ns m v H' → Q v H'
theorem ways2 : ∀ (vs : List V) (H : Hp) (Q : VK) (E : XK), spWays2 K vs H Q E → spWays K vs H Q E := by
  rintro vs H Q E ⟨d, l, m, ns, e, hD, hm, hS, hn, hl, q⟩
  exact ⟨d, l, m, spots ns, e, hD, hm, hS, hn, hl, fun hb H' s => q _ _ s (.inl ⟨hb, rfl⟩), fun hb r H' hr s h => q _ _ s (.inr ⟨hb, r, rfl, h⟩)⟩
/-- behind the first part -/
def At1 (K : PySem.W.Frag) (C : Addr) (H0 : Hp) (a : Addr) (k : Nat) (σ : L2.St) (H : Hp) : Prop := ∃ (p l d t sm h : Addr) (v : V) (n : Nat) (ns cs : List Str) (m : List (Pr × Bd)) (u11 u12 u13 u14 : Option V),
  σ = [some (.ref a), some (.int k), some (.ref p), some (.ref l), some (.ref d), some (.ref t), some v, some (.ref sm), some (.ref h), some .non, some .non, u11, u12, u13, u14] ∧
  Same H0 H ∧ H0 p = none ∧ Pool H p n ∧ n ≤ 100000 ∧ H l = some (.lst (ns.map V.str)) ∧ Drawn ns ∧ 0 < ns.length ∧ ns.length ≤ 4 ∧ GoodB (spots ns) m ∧ Tab K C H t ns (tabM ns m) ∧ WaysV ns m v H ∧
  H sm = some (.lst (cs.map V.str)) ∧ cs.Nodup ∧ (∀ x ∈ cs, x ∈ ns) ∧ Seq K H h (cs.map V.str)
theorem same_but {p : Addr} {H0 H H' : Hp} (s : Same H0 H) (h : H0 p = none) (b : But p H H') : Same H0 H' := fun x o e => b x o (s x o e) (ne_of_none e h)
theorem six {k : Nat} {v : V} (h : [V.int 1, V.int 2, V.int 2, V.int 3, V.int 3, V.int 4][k]? = some v) : ∃ m : Nat, v = .int m ∧ 0 < m ∧ m ≤ 4 := by
  match k, h with
  | 0, h => cases h; exact ⟨1, rfl, by decide, by decide⟩
  | 1, h => cases h; exact ⟨2, rfl, by decide, by decide⟩
  | 2, h => cases h; exact ⟨2, rfl, by decide, by decide⟩
  | 3, h => cases h; exact ⟨3, rfl, by decide, by decide⟩
  | 4, h => cases h; exact ⟨3, rfl, by decide, by decide⟩
  | 5, h => cases h; exact ⟨4, rfl, by decide, by decide⟩
  | k + 6, h => cases h
theorem pair_or {k : Nat} {v : V} {a b : Addr} (h : [V.ref a, V.ref b][k]? = some v) : v = .ref a ∨ v = .ref b := by
  match k, h with
  | 0, h => cases h; exact .inl rfl
  | 1, h => cases h; exact .inr rfl
  | k + 2, h => cases h
theorem rd_law1 {fl fC fP fN fO fD fT fW fM fK : Addr} {dC dP dN dO dD dT dW dM dK fdl : FuncData} {cdv : Value} {A : Around} {outer : List Env} {s : Shared} {Hb : Hp} {E : XK}
    (gC : Got P w K mg base CX0 1 "_law_cell" ["_law_script", "_law_k"] (spCell K) fC dC) (gP : Got P w K mg base CX0 1 "_law_pool" ["_law_cell_here"] spPool fP dP) (gN : Got P w K mg base CX0 3 "_law_names" ["_law_pool_here", "_law_many"] spNames fN dN)
    (gO : Got P w K mg base CX0 2 "_law_one" ["_law_pool_here", "_law_things"] (spOne K) fO dO) (gD : Got P w K mg base CX0 3 "_law_drawn" ["_law_pool_here", "_law_names_here"] (spDrawn K) fD dD) {C : Addr} (gT : Got P w K mg base CX0 6 "_law_table" nTable (spTable K C) fT dT)
    (gW : Got P w K mg base CX0 8 "_law_ways" ["_law_bounds", "_law_ones"] (spWays2 K) fW dW) (gM : Got P w K mg base CX0 2 "_law_mixed" ["_law_pool_here", "_law_things"] (spMixed K) fM dM) (gK : Got P w K mg base CX0 1 "_law_take" ["_law_pool_here", "_law_many"] spTake fK dK)
    (ml : mg "len" = none) (mk : mg "list" = none) (mt : mg "tuple" = none) (hr : Room 12 (A.deeper (PyProof.Rows.envOfC "law" (defScope sLaw) s.heap.objs.size fl cdv))) {u : TS}
    (hu : PSs (cxOf CX0 P w K mg base nLaw "law" (defScope sLaw) fl cdv A outer s Hb E).nox (lawFor.drop 7) u) :
    ∃ t, PSs (cxOf CX0 P w K mg base nLaw "law" (defScope sLaw) fl cdv A outer s Hb E).nox lawFor t ∧
      ∀ (D : Ends) (H : Hp) (a : Addr) (k : Nat) (zs : List Int) (u2 u3 u4 u5 u6 u7 u8 u9 u10 u11 u12 u13 u14 : Option V), SqL K H a (zs.map V.int) → zs.length ≤ 63 → (∀ σ' H', At1 K C H a k σ' H' → u D σ' H') →
        t D [some (.ref a), some (.int k), u2, u3, u4, u5, u6, u7, u8, u9, u10, u11, u12, u13, u14] H := by
  refine ⟨_, pss_cons (ps_set (i := 2) scLaw.nd rfl (Or.inl rfl) (pe_call gP.G (hr.mono (by decide)) rfl gP.m gP.k gP.b .nil pass0 (pa_cons (pe_op op_add (pe_call gC.G (hr.mono (by decide)) rfl gC.m gC.k gC.b .nil pass0 (pa_cons (pv 0) (pa_cons (pv 1) pa_nil))) (pv 1)) pa_nil)))
    (pss_cons (ps_set (i := 3) scLaw.nd rfl (Or.inl rfl) (pe_call gN.G (hr.mono (by decide)) rfl gN.m gN.k gN.b .nil pass0 (pa_cons (pv 2) (pa_cons (pe_call gO.G (hr.mono (by decide)) rfl gO.m gO.k gO.b .nil pass0 (pa_cons (pv 2) (pa_cons (pe_lst (pa_cons pe_int (pa_cons pe_int (pa_cons pe_int (pa_cons pe_int (pa_cons pe_int (pa_cons pe_int pa_nil))))))) pa_nil))) pa_nil))))
    (pss_cons (ps_set (i := 4) scLaw.nd rfl (Or.inl rfl) (pe_call gD.G (hr.mono (by decide)) rfl gD.m gD.k gD.b .nil pass0 (pa_cons (pv 2) (pa_cons (pv 3) pa_nil))))
    (pss_cons (ps_asg (pe_tup (pa_cons (pe_call gT.G (hr.mono (by decide)) rfl gT.m gT.k gT.b .nil pass0 (pa_cons (pv 2) (pa_cons (pv 3) (pa_cons (pv 4) pa_nil)))) (pa_cons (pe_call gW.G (hr.mono (by decide)) rfl gW.m gW.k gW.b .nil pass0 (pa_cons (pv 4) (pa_cons (pe_op op_cat (pe_lst (pa_cons pe_str pa_nil)) (pv 3)) pa_nil))) pa_nil)))
        (pg_tup rfl (pgs_cons (pg_name (i := 5) scLaw.nd rfl (Or.inr rfl)) (pgs_cons (pg_name (i := 6) scLaw.nd rfl (Or.inl rfl)) pgs_nil))))
    (pss_cons (ps_set (i := 7) scLaw.nd rfl (Or.inr rfl) (pe_slice sl_list (pe_call gM.G (hr.mono (by decide)) rfl gM.m gM.k gM.b .nil pass0 (pa_cons (pv 2) (pa_cons (pv 3) pa_nil))) po_none (po_some (pe_call gK.G (hr.mono (by decide)) rfl gK.m gK.k gK.b .nil pass0 (pa_cons (pv 2) (pa_cons (pe_op op_add (pe_callB call_len_seq rfl ml PySem.boot_len (pa_cons (pv 3) pa_nil)) pe_int) pa_nil))))))
    (pss_cons (ps_set (i := 8) scLaw.nd rfl (Or.inl rfl) (pe_call gO.G (hr.mono (by decide)) rfl gO.m gO.k gO.b .nil pass0 (pa_cons (pv 2) (pa_cons (pe_lst (pa_cons (pe_callTy call_list_of rfl mk PyProof.Rows.boot_list (pa_cons (pv 7) pa_nil)) (pa_cons (pe_callTy (call_tupOf (K := K) rfl) rfl mt PyProof.Rows.boot_tuple (pa_cons (pv 7) pa_nil)) pa_nil))) pa_nil))))
    (pss_cons (ps_asg (pe_tup (pa_cons pe_non (pa_cons pe_non pa_nil))) (pg_tup rfl (pgs_cons (pg_name (i := 9) scLaw.nd rfl (Or.inl rfl)) (pgs_cons (pg_name (i := 10) scLaw.nd rfl (Or.inl rfl)) pgs_nil)))) hu)))))), ?_⟩
  intro D H a k zs u2 u3 u4 u5 u6 u7 u8 u9 u10 u11 u12 u13 u14 hS hl63 q
  -- the pool
  refine ⟨_, rfl, _, rfl, a, zs, k, rfl, hS, hl63, fun z H1 s1 => ⟨_, rfl, _, _, rfl, rfl, _, rfl, fun p H2 hp1 s2 hP => ?_⟩⟩
  have s12 := s1.trans s2
  have hp : H p = none := s1.free hp1
  clear s1 s2 hp1
  generalize ez : (z + (k : Int)) = z' at *
  clear ez
  -- the names
  refine ⟨_, rfl, _, rfl, (by show 6 ≤ sizeLine; decide), fun a3 h3 => ?_⟩
  have n3 := hP.apart h3
  have s3 := same_new h3 (.lst [V.int 1, V.int 2, V.int 2, V.int 3, V.int 3, V.int 4])
  refine ⟨p, a3, _, 0, rfl, hP.new h3, by decide, .inl (SqL.of upd_same), n3, Nat.succ_pos _, (by show 6 ≤ 10000; decide), fun i v o hv hP4 => ?_⟩
  obtain ⟨mm, rfl, m0, m4⟩ := six hv
  have s4 : Same H (upd (upd H2 a3 (.lst [V.int 1, V.int 2, V.int 2, V.int 3, V.int 3, V.int 4])) p o) := same_but (s12.trans s3) hp but_upd
  generalize upd (upd H2 a3 (.lst [V.int 1, V.int 2, V.int 2, V.int 3, V.int 3, V.int 4])) p o = H4 at hP4 s4
  refine ⟨p, mm, _, rfl, hP4, by decide, by omega, fun ns l H5 nd5 sub5 len5 hl5 b5 hP5 e5 => ?_⟩
  have hd : Drawn ns := drawn_of nd5 sub5 (by omega)
  have s5 := same_but s4 hp b5
  have nlp := lst_apart e5 hP5
  clear s12 s3 h3 n3 hv
  -- the bounds
  refine ⟨_, rfl, _, rfl, p, l, ns, _, rfl, hP5, by decide, SqL.of e5, nlp, hd.few, hd.nd, fun m d H6 hg hd6 b6 hP6 hD6 => ?_⟩
  have s6 := same_but s5 hp b6
  have e6 := b6 _ _ e5 nlp
  -- the table, the ways
  refine ⟨_, rfl, _, rfl, _, rfl, p, l, d, ns, m, _, rfl, hP6, by decide, SqL.of e6, nlp, hd, hD6, hg, fun t H7 ht7 b7 hP7 hT7 => ?_⟩
  have s7 := same_but s6 hp b7
  have e7 := b7 _ _ e6 nlp
  have hD7 := hD6.but hP6 b7
  refine ⟨_, rfl, (by show 1 ≤ sizeLine; decide), fun a8 h8 => ⟨_, rfl, ?_⟩⟩
  have s8 := same_new h8 (.lst [V.str ""])
  refine ⟨a8, l, _, _, rfl, rfl, upd_same, s8 _ _ e7, (by rw [List.length_map]; exact Nat.le_trans (show _ ≤ 100 by show 1 + ns.length ≤ 100; omega) (by decide)), fun a9 h9 => ?_⟩
  have s9 := s8.trans (same_new h9 (.lst ([V.str ""] ++ ns.map V.str)))
  have e9 : upd (upd H7 a8 (.lst [V.str ""])) a9 (.lst ([V.str ""] ++ ns.map V.str)) a9 = some (.lst ((spots ns).map V.str)) := upd_same
  generalize upd (upd H7 a8 (.lst [V.str ""])) a9 (.lst ([V.str ""] ++ ns.map V.str)) = H9 at s9 e9
  refine ⟨d, a9, m, ns, rfl, hD7.mono (s9 d) fun v b h => h.mono fun a xs e => s9 _ _ e, hg.mk, SqL.of e9, hd.nd, (by rw [List.length_cons]; omega), fun v H10 s10 hW => ?_⟩
  refine ⟨(by show 2 ≤ sizeLine; decide), fun tp htp => ⟨tp, _, rfl, SqT.of upd_same, rfl, _, _, rfl, _, _, rfl, rfl, ?_⟩⟩
  have s11 : Same H7 (upd H10 tp (.tup [.ref t, v])) := (s9.trans s10).trans (same_new htp _)
  have hW11 : WaysV ns m v (upd H10 tp (.tup [.ref t, v])) := hW.imp id fun ⟨h, r, e, z⟩ => ⟨h, r, e, z.mono (same_new htp _ r) fun v b h => h.mono fun a xs e => same_new htp _ _ _ e⟩
  generalize upd H10 tp (.tup [.ref t, v]) = H11 at s11 hW11
  clear htp hW s10 s9 e9 h9 s8 h8
  have hP11 : Pool H11 p 5008 := by
    obtain ⟨x, y, z, e, h⟩ := hP7
    exact ⟨x, y, z, s11 _ _ e, h⟩
  have hT11 := hT7.same s11
  have e11 := s11 _ _ e7
  have s0 := s7.trans s11
  clear hP7 hT7 e7 hD7 s7 s11 ht7 b7 hP6 hD6 hd6 b6 e6 s6 hP5 e5 s5 b5 hl5 hP4 s4 hP
  -- some of the names
  refine ⟨_, rfl, _, rfl, p, l, _, _, rfl, hP11, (by rw [List.length_map]; omega), .inl (SqL.of e11), nlp, (by rw [List.length_map]; omega), fun ys r H12 pm hr12 b12 hP12 e12 => ?_⟩
  obtain ⟨qs, hqs, rfl⟩ := perm_map_inv pm
  have e12' := b12 _ _ e11 nlp
  have hT12 := hT11.but hP11 b12
  have nrp : r ≠ p := by
    obtain ⟨xs, e⟩ := hP11.some
    exact (ne_of_none e hr12).symm
  have s12 := same_but s0 hp b12
  have hW12 : WaysV ns m v H12 := hW11.imp id fun ⟨h, r, e, z⟩ => ⟨h, r, e, z.but hP11 b12⟩
  have hP12 : Pool H12 p 5020 := hP12.mono (by rw [List.length_map]; omega)
  clear hT11 hW11 e11 s0 b12 hP11 hr12
  refine ⟨_, rfl, _, rfl, l, _, rfl, .inl (SqL.of e12'), _, _, rfl, rfl, p, _, _, rfl, hP12, by decide, ?_, ?_, fun dd o d0 d1 hP13 => ?_⟩
  · rw [List.length_map]; omega
  · rw [List.length_map]; omega
  have e13 : upd H12 p o r = some (.lst (qs.map V.str)) := by rw [upd_ne nrp]; exact e12
  have e13' : upd H12 p o l = some (.lst (ns.map V.str)) := by rw [upd_ne nlp]; exact e12'
  have hT13 := hT12.but hP12 (but_upd (o := o))
  have hW13 : WaysV ns m v (upd H12 p o) := hW12.imp id fun ⟨h, r, e, z⟩ => ⟨h, r, e, z.but hP12 but_upd⟩
  have s13 := same_but s12 hp (but_upd (o := o))
  generalize upd H12 p o = H13 at hP13 e13 e13' hT13 hW13 s13
  clear hT12 hW12 e12 e12' s12 hP12
  refine ⟨dd, rfl, r, _, rfl, SqL.of e13, fun sm hsm => ?_⟩
  have ec : cutV (qs.map V.str) none (some dd) = (qs.take dd.toNat).map V.str := by
    have e : dd = ((dd.toNat : Nat) : Int) := (Int.toNat_of_nonneg d0).symm
    have l1 := hqs.length_eq
    rw [e, cut_to _ _ (by rw [List.length_map] at d1 ⊢; omega), List.map_take, Int.toNat_natCast]
  rw [ec]
  have hcs : (qs.take dd.toNat).Nodup := (hqs.nodup_iff.mpr nd5).sublist (List.take_sublist _ _)
  have hsub : ∀ x ∈ qs.take dd.toNat, x ∈ ns := fun x h => hqs.mem_iff.mp (List.mem_of_mem_take h)
  generalize qs.take dd.toNat = cs at hcs hsub
  have s14 := same_new hsm (.lst (cs.map V.str))
  have e14 : upd H13 sm (.lst (cs.map V.str)) sm = some (.lst (cs.map V.str)) := upd_same
  have hP14 := hP13.new (o := .lst (cs.map V.str)) hsm
  have nsp := hP13.apart hsm
  generalize upd H13 sm (.lst (cs.map V.str)) = H14 at s14 e14 hP14
  -- handed over
  refine ⟨_, rfl, _, rfl, sm, _, rfl, .inl (SqL.of e14), fun a1 h1 => ⟨_, rfl, sm, _, rfl, .inl ⟨(same_new h1 _).seq (SqL.of e14), fun a2 h2 => ⟨(by show 2 ≤ sizeLine; decide), fun a3 h3 => ?_⟩⟩⟩⟩
  have t1 := same_new h1 (.lst (cs.map V.str))
  have t2 := same_new h2 (.tup (cs.map V.str))
  have t3 := same_new h3 (.lst [.ref a1, .ref a2])
  have p1 := hP14.new (o := .lst (cs.map V.str)) h1
  have p2 := p1.new (o := .tup (cs.map V.str)) h2
  have p3 := p2.new (o := .lst [.ref a1, .ref a2]) h3
  have n1 := hP14.apart h1
  have n2 := p1.apart h2
  have n3 := p2.apart h3
  have f1 : (upd (upd (upd H14 a1 (.lst (cs.map V.str))) a2 (.tup (cs.map V.str))) a3 (.lst [.ref a1, .ref a2])) a1 = some (.lst (cs.map V.str)) := t3 _ _ (t2 _ _ upd_same)
  have f2 : (upd (upd (upd H14 a1 (.lst (cs.map V.str))) a2 (.tup (cs.map V.str))) a3 (.lst [.ref a1, .ref a2])) a2 = some (.tup (cs.map V.str)) := t3 _ _ upd_same
  have f3 : (upd (upd (upd H14 a1 (.lst (cs.map V.str))) a2 (.tup (cs.map V.str))) a3 (.lst [.ref a1, .ref a2])) a3 = some (.lst [.ref a1, .ref a2]) := upd_same
  have t13 := ((t1.trans t2).trans t3)
  generalize upd (upd (upd H14 a1 (.lst (cs.map V.str))) a2 (.tup (cs.map V.str))) a3 (.lst [.ref a1, .ref a2]) = H15 at p3 f1 f2 f3 t13
  clear t1 t2 t3 p1 p2 h1 h2 h3
  refine ⟨p, a3, _, _, rfl, p3, by decide, .inl (SqL.of f3), n3, Nat.succ_pos _, (by show 2 ≤ 10000; decide), fun i x o2 hx hP16 => ?_⟩
  have sq : ∃ h, x = .ref h ∧ Seq K (upd H15 p o2) h (cs.map V.str) := by
    rcases pair_or hx with rfl | rfl
    · exact ⟨a1, rfl, .inl (SqL.of (by rw [upd_ne n1]; exact f1))⟩
    · exact ⟨a2, rfl, .inr (SqT.of (by rw [upd_ne n2]; exact f2))⟩
  obtain ⟨h, rfl, hsq⟩ := sq
  have s1316 : But p H13 (upd H15 p o2) := (But.of (s14.trans t13)).put
  have e16 : upd H15 p o2 sm = some (.lst (cs.map V.str)) := by rw [upd_ne nsp]; exact t13 _ _ e14
  have hT16 := hT13.but hP13 s1316
  have hW16 : WaysV ns m v (upd H15 p o2) := hW13.imp id fun ⟨h, r, e, z⟩ => ⟨h, r, e, z.but hP13 s1316⟩
  have s16 := same_but s13 hp s1316
  have e16' := s1316 _ _ e13' nlp
  generalize upd H15 p o2 = H16 at hP16 hsq e16 hT16 hW16 s16 e16'
  clear hT13 hW13 s13 hP13 e13 e13' s14 e14 hP14 t13 f1 f2 f3 p3 s1316
  -- nothing due yet
  refine ⟨(by show 2 ≤ sizeLine; decide), fun tq htq => ⟨tq, _, rfl, SqT.of upd_same, rfl, _, _, rfl, _, _, rfl, rfl, ?_⟩⟩
  have s17 := same_new htq (.tup [V.non, V.non])
  refine q _ _ ⟨p, l, d, t, sm, h, v, 5023, ns, cs, m, u11, u12, u13, u14, rfl, s16.trans s17, hp, (hP16.mono (by decide)).new htq, by decide, s17 _ _ e16', hd, by omega, by omega, hg, hT16.same s17, ?_, s17 _ _ e16, hcs, hsub, Seq.same hsq s17⟩
  exact hW16.imp id fun ⟨h, r, e, z⟩ => ⟨h, r, e, z.mono (s17 r) fun v b h => h.mono fun a xs e => s17 _ _ e⟩
end
end Rw
set_option Elab.async false
set_option linter.all false
set_option maxRecDepth 100000
set_option maxHeartbeats 4000000
namespace Rw
open PySem L2
/-! ### the law's loop, second part: what is due -/
theorem nought_nd {cs : List Str} {m : List (Pr × Bd)} : ∀ {ps : List Pr}, ps.Nodup → ((noughtL cs m ps).map (·.1)).Nodup := fun {ps} h => by
  have e : ((noughtL cs m ps).map (·.1)).Sublist ps := by
    unfold noughtL
    clear h
    induction ps with
    | nil => exact List.Sublist.refl _
    | cons p ps ih =>
      rw [List.filterMap_cons]
      cases e : (atN cs m p).map fun b => (p, b) with
      | none => exact List.Sublist.cons _ ih
      | some x =>
        rw [List.map_cons]
        cases e2 : atN cs m p with
        | none => rw [e2] at e; cases e
        | some b =>
          rw [e2] at e
          cases e
          exact List.Sublist.cons₂ _ ih
  exact h.sublist e
theorem restM_nd {cs : List Str} {m : List (Pr × Bd)} (h : (m.map (·.1)).Nodup) : ((restM cs m).map (·.1)).Nodup := h.sublist ((List.filter_sublist (l := m)).map _)
theorem dueB_nd {ns cs : List Str} {m : List (Pr × Bd)} (hn : (spots ns).Nodup) : ((restM cs (wsOf ns m) ++ noughtL cs (wsOf ns m) (prsOf (spots ns))).map (·.1)).Nodup := by
  rw [List.map_append]
  refine List.nodup_append.mpr ⟨restM_nd (waysL_nd (prsOf_nd hn hn)), nought_nd (prsOf_nd hn hn), fun x hx y hy e => ?_⟩
  subst e
  obtain ⟨e1, h1, rfl⟩ := List.mem_map.mp hx
  obtain ⟨e2, h2, e3⟩ := List.mem_map.mp hy
  have z := atN_in (noughtL_key h2).2
  rw [e3] at z
  have w := restM_key h1
  exact z.elim w.2.1 w.2.2
theorem dueB_len {ns cs : List Str} {m : List (Pr × Bd)} (h : ns.length ≤ 7) : (restM cs (wsOf ns m) ++ noughtL cs (wsOf ns m) (prsOf (spots ns))).length ≤ 128 := by
  rw [List.length_append]
  have z1 : (restM cs (wsOf ns m)).length ≤ (wsOf ns m).length := List.length_filter_le _ _
  have z2 : (noughtL cs (wsOf ns m) (prsOf (spots ns))).length ≤ (prsOf (spots ns)).length := List.length_filterMap_le _ _
  have := wsOf_few (m := m) h
  have := prs_few h
  omega
theorem RB.same {H H' : Hp} {v : V} {b : Bd} (h : RB H v b) (s : Same H H') : RB H' v b := h.mono fun a xs e => s _ _ e
theorem DT.sameB {H H' : Hp} {d : Addr} {m : List (Pr × Bd)} (h : DT RB H d m) (s : Same H H') : DT RB H' d m := h.mono (s d) fun v b z => z.same s
theorem DT.sameW {K : PySem.W.Frag} {H H' : Hp} {d : Addr} {m : List (Pr × Bd)} (h : DT (RW K) H d m) (s : Same H H') : DT (RW K) H' d m := h.mono (s d) fun v b z => z.same s
theorem WaysV.same {ns : List Str} {m : List (Pr × Bd)} {v : V} {H H' : Hp} (h : WaysV ns m v H) (s : Same H H') : WaysV ns m v H' := h.imp id fun ⟨h, r, e, z⟩ => ⟨h, r, e, z.sameB s⟩
theorem own_same {H : Hp} {x dx C : Addr} (hx : H x = none) (hdx : H dx = none) : Same H (upd (upd H dx (.own x)) x (.ins C dx [])) := fun b o e => by
  rw [upd_ne (ne_of_none e hx), upd_ne (ne_of_none e hdx)]
  exact e
section
variable {P : Program} {w : World} {K : PySem.W.Frag} {mg : Str → Option Value} {base : Heap}
/-- the two tables that are due, or nothing twice -/
def DueV (K : PySem.W.Frag) (C : Addr) (ns cs : List Str) (m : List (Pr × Bd)) (x9 x10 : V) (H : Hp) : Prop := (LawBad (codeM m) (spots ns) ∧ x9 = .non ∧ x10 = .non) ∨
  (¬ LawBad (codeM m) (spots ns) ∧ ∃ t9 t10, x9 = .ref t9 ∧ x10 = .ref t10 ∧ Tab K C H t9 ns (dueB ns cs m) ∧ Tab K C H t10 (keptN ns cs) (dueW ns cs m))
def At2 (K : PySem.W.Frag) (C : Addr) (H0 : Hp) (a : Addr) (k : Nat) (σ : L2.St) (H : Hp) : Prop := ∃ (p l d t sm h : Addr) (v x9 x10 : V) (n : Nat) (ns cs : List Str) (m : List (Pr × Bd)) (u11 u12 u13 u14 : Option V),
  σ = [some (.ref a), some (.int k), some (.ref p), some (.ref l), some (.ref d), some (.ref t), some v, some (.ref sm), some (.ref h), some x9, some x10, u11, u12, u13, u14] ∧
  Same H0 H ∧ H0 p = none ∧ Pool H p n ∧ n ≤ 100000 ∧ H l = some (.lst (ns.map V.str)) ∧ Drawn ns ∧ 0 < ns.length ∧ ns.length ≤ 4 ∧ GoodB (spots ns) m ∧ Tab K C H t ns (tabM ns m) ∧ WaysV ns m v H ∧
  H sm = some (.lst (cs.map V.str)) ∧ cs.Nodup ∧ (∀ x ∈ cs, x ∈ ns) ∧ Seq K H h (cs.map V.str) ∧ DueV K C ns cs m x9 x10 H
theorem rd_law2 {fl fS fH fR fI C : Addr} {dS dH dR dI fdl : FuncData} {cdv : Value} {A : Around} {outer : List Env} {s : Shared} {Hb : Hp} {E : XK}
    (gS : Got P w K mg base CX0 2 "_law_words" ["_law_bounds"] (spWords K) fS dS) (gH : Got P w K mg base CX0 2 "_law_at_nought" ["_law_ways_here", "_law_names_here", "_law_some"] (spNought K) fH dH)
    (gR : Got P w K mg base CX0 1 "_law_rest" ["_law_ways_here", "_law_some"] (spRest K) fR dR) (GT : FnOk P w K mg base CX0 4 fI dI ["self", "names", "bounds"] (spTInit K C)) (MT : L2.Mk K C fI) (bT : Binds K dI ["self", "names", "bounds"] []) (mC : mg "Table" = some (.ref C))
    (hr : Room 12 (A.deeper (PyProof.Rows.envOfC "law" (defScope sLaw) s.heap.objs.size fl cdv))) {u : TS}
    (hu : PSs (cxOf CX0 P w K mg base nLaw "law" (defScope sLaw) fl cdv A outer s Hb E).nox (lawFor.drop 8) u) :
    ∃ t, PSs (cxOf CX0 P w K mg base nLaw "law" (defScope sLaw) fl cdv A outer s Hb E).nox (lawFor.drop 7) t ∧
      ∀ (D : Ends) (H0 H : Hp) (a : Addr) (k : Nat) (σ : L2.St), At1 K C H0 a k σ H → (∀ σ' H', At2 K C H0 a k σ' H' → u D σ' H') → t D σ H := by
  refine ⟨_, pss_cons (ps_if (pt_cmpR op_notN (pv 6) pe_non (nomark _))
      (pss_cons (ps_set (i := 9) scLaw.nd rfl (Or.inl rfl) (pe_make MT GT (hr.mono (by decide)) rfl mC bT .nil pass0 (pa_cons (pv 3) (pa_cons (pe_call gS.G (hr.mono (by decide)) rfl gS.m gS.k gS.b .nil pass0 (pa_cons (pe_call gH.G (hr.mono (by decide)) rfl gH.m gH.k gH.b .nil pass0 (pa_cons (pv 6) (pa_cons (pv 3) (pa_cons (pv 7) pa_nil)))) pa_nil)) pa_nil))))
      (pss_one (ps_set (i := 10) scLaw.nd rfl (Or.inl rfl) (pe_make MT GT (hr.mono (by decide)) rfl mC bT .nil pass0 (pa_cons
        (pe_lc (own := [("_law_name", 14)]) (g := gName 14) (tt := tTest (tOp (rIn K true) (tVar 14) (tVar 7))) rfl scLaw.nd (pi_list (pv 3)) (blkOk_by (N := nLaw) (sc := defScope sLaw) (by decide +kernel)) (fun _ _ _ _ _ => pg_name (i := 14) scLaw.nd rfl (Or.inl rfl)) (fun _ _ _ _ _ => pts_one (pt_cmpR op_notIn_seq (pv 14) (pv 7) rfl)) (fun _ _ _ _ _ => pv 14))
        (pa_cons (pe_call gS.G (hr.mono (by decide)) rfl gS.m gS.k gS.b .nil pass0 (pa_cons (pe_call gR.G (hr.mono (by decide)) rfl gR.m gR.k gR.b .nil pass0 (pa_cons (pv 6) (pa_cons (pv 7) pa_nil))) pa_nil)) pa_nil)))))) pss_nil) hu, ?_⟩
  rintro D H0 H a k σ ⟨p, l, d, t, sm, h, v, n, ns, cs, m, u11, u12, u13, u14, rfl, s0, hp, hP, hn, hl, hd, h0, h4, hg, hT, hW, hsm, hcs, hsub, hsq⟩ q
  have nocs : ("" : Str) ∉ cs := fun z => (List.nodup_cons.mp hd.nd).1 (hsub _ z)
  refine ⟨_, rfl, rfl, _, rfl, ?_⟩
  rcases hW with ⟨hb, rfl⟩ | ⟨hb, r, rfl, hD⟩
  · refine iteF ?_
    exact q _ _ ⟨p, l, d, t, sm, h, .non, .non, .non, n, ns, cs, m, u11, u12, u13, u14, rfl, s0, hp, hP, hn, hl, hd, h0, h4, hg, hT, .inl ⟨hb, rfl⟩, hsm, hcs, hsub, hsq, .inl ⟨hb, rfl, rfl⟩⟩
  · refine iteT ?_
    have few := wsOf_few (m := m) hd.few
    have wn : ((wsOf ns m).map (·.1)).Nodup := waysL_nd (prsOf_nd hd.nd hd.nd)
    refine ⟨_, rfl, _, rfl, _, rfl, _, rfl, r, l, sm, wsOf ns m, ns, cs, rfl, hD, wn, by omega, hl, SqL.of hsm, hd, nocs, fun r1 H1 hr1 s1 hR1 => ?_⟩
    have lenB := dueB_len (m := m) (cs := cs) hd.few
    refine ⟨r1, _, rfl, hR1, dueB_nd hd.nd, by omega, fun r2 H2 hr2 s2 hR2 => ?_⟩
    have s12 := s1.trans s2
    intro x dx hx hdx hne
    have sM := own_same (C := C) hx hdx
    have M2 : Makes K H2 l r2 ns (optM (restM cs (wsOf ns m) ++ noughtL cs (wsOf ns m) (prsOf (spots ns)))) :=
      makes_of hd (List.Sublist.refl _) (.inl (SqL.of (s12 _ _ hl))) hR2 (fun e he => by
        rcases List.mem_append.mp he with z | z
        · exact prs_spots (wsOf_keys e z).1
        · exact prs_spots (noughtL_key z).1) (by omega)
    refine ⟨H2, x, dx, l, r2, ns, _, rfl, sM, hx, upd_same, M2.same sM, fun H3 s3 T9 => ⟨rfl, ?_⟩⟩
    have s03 := s12.trans s3
    clear sM M2 s12 hR1 hR2 hx hdx hr1 hr2 s1 s2 s3
    have hD3 := hD.sameB s03
    have hl3 := s03 _ _ hl
    have hsm3 := s03 _ _ hsm
    refine ⟨_, rfl, l, rfl, ⟨_, SqL.of hl3⟩, fun Dk hDk => ?_⟩
    have nl : (ns.map V.str).length = ns.length := List.length_map _
    refine lc_map (S := Same) (walk_list (K := K) (a := l) (xs := ns.map V.str)) (stp_same Dk) hDk (by omega) (ofL ns fun x => decide (x ∉ cs)) (fun j H y => ∃ z, ns[j]? = some z ∧ y = .str z) ?_ ?_ ?_ ?_ ?_
    · intro j H4 H5 y s4 z
      exact z
    · intro j H4 y acc o hacc z
      exact z
    · intro H4 s4
      exact s4.seq (SqL.of hl3)
    · rintro j y H4 H5 acc N Z hj s4 hacc ⟨rfl, hy⟩ hyes hno
      obtain ⟨z, hz, rfl⟩ := at_map hy
      refine ⟨rfl, ?_⟩
      refine ⟨_, rfl, _, rfl, sm, _, rfl, .inl (s4.seq (SqL.of hsm3)), rfl, flat_strs, _, rfl, ?_⟩
      rw [if_pos rfl, inV_str]
      refine ite2 (fun e => ?_) (fun e => ?_)
      · have hcn : z ∉ cs := fun w => by
          rw [decide_eq_true w] at e
          cases e
        exact ⟨_, rfl, hyes (by rw [ofL_at hz]; exact decide_eq_true hcn) _ _ (Same.refl _) ⟨z, hz, rfl⟩⟩
      · have hcn : z ∈ cs := by
          by_cases w : z ∈ cs
          · exact w
          · exact absurd (by rw [decide_eq_false w]; rfl) e
        exact hno (by rw [ofL_at hz]; exact decide_eq_false fun w => w hcn) _ (Same.refl _)
    · intro ys H4 s4 e4 r4
      rw [nl] at r4
      have r5 : Paired (fun z y' => y' = V.str z) (ns.filter fun x => decide (x ∉ cs)) ys := chosen_whole (fun j z y' hz ⟨z', hz', e⟩ => by rw [hz] at hz'; cases hz'; exact e) r4
      have ey := paired_eq r5
      subst ey
      refine ⟨_, rfl, _, rfl, r, sm, wsOf ns m, cs, rfl, hD3.sameB s4, wn, by omega, SqL.of (s4 _ _ hsm3), fun r5 H5 hr5 s5 hR5 => ?_⟩
      have lenR : (restM cs (wsOf ns m)).length ≤ 64 := Nat.le_trans (List.length_filter_le _ _) few
      refine ⟨r5, _, rfl, hR5, restM_nd wn, by omega, fun r6 H6 hr6 s6 hR6 => ?_⟩
      have s46 := s5.trans s6
      intro x2 dx2 hx2 hdx2 hne2
      have sM := own_same (C := C) hx2 hdx2
      have kin : ∀ x, x ∈ spots ns → x ∉ cs → x ∈ spots (keptN ns cs) := fun x h1 h2 => by
        rcases List.mem_cons.mp h1 with rfl | h1
        · exact List.mem_cons_self
        · exact List.mem_cons_of_mem _ (List.mem_filter.mpr ⟨h1, decide_eq_true h2⟩)
      have M6 : Makes K H6 Dk r6 (keptN ns cs) (optM (restM cs (wsOf ns m))) :=
        makes_of hd List.filter_sublist (.inl (SqL.of (s46 _ _ e4))) hR6 (fun e he => by
          obtain ⟨z1, z2, z3⟩ := wsOf_keys e he
          obtain ⟨w1, w2, w3⟩ := prs_spots z1
          exact ⟨kin _ w1 z2, kin _ w2 z3, w3⟩) (by omega)
      refine ⟨H6, x2, dx2, Dk, r6, keptN ns cs, _, rfl, sM, hx2, upd_same, M6.same sM, fun H7 s7 T10 => ⟨rfl, ?_⟩⟩
      have s37 := s4.trans (s46.trans s7)
      have s07 := s03.trans s37
      have hP7 : Pool H7 p n := by
        obtain ⟨a, b, c, e, z⟩ := hP
        exact ⟨a, b, c, s07 _ _ e, z⟩
      exact q _ _ ⟨p, l, d, t, sm, h, .ref r, .ref x, .ref x2, n, ns, cs, m, u11, u12, u13, u14, rfl, s0.trans s07, hp, hP7, hn, s07 _ _ hl, hd, h0, h4, hg, hT.same s07, .inr ⟨hb, r, rfl, hD.sameB s07⟩, s07 _ _ hsm, hcs, hsub, Seq.same hsq s07, .inr ⟨hb, x, x2, rfl, rfl, T9.same s37, T10⟩⟩
end
end Rw
set_option Elab.async false
set_option linter.all false
set_option maxRecDepth 100000
set_option maxHeartbeats 4000000
namespace Rw
open PySem L2
/-! ### the law's loop, third part: begun and without against what is due; an odd name, a wrong list -/
theorem ne_tab {K : PySem.W.Frag} {C : Addr} {u x : V} {H : Hp} {Q : VK} (h : (u = .non ∧ x = .non) ∨ DIns C (RTab K C) u x H) (q : ∀ H', Same H H' → Q (.bl false) H') : rNeT C (RTab K C) u x H Q :=
  h.imp (fun ⟨e1, e2⟩ => ⟨e1, e2, q _ (Same.refl _)⟩) fun d => ⟨d, q⟩
theorem alike_begun {K : PySem.W.Frag} {C : Addr} {ns cs : List Str} {m : List (Pr × Bd)} {u x9 x10 : V} {H : Hp} (hd : Drawn ns) (hg : GoodB (spots ns) m) (hc : ("" : Str) ∉ cs) (h : Told K C ns ns (tabM ns m) (placesB ns cs) u H) (hx : DueV K C ns cs m x9 x10 H) :
    (u = .non ∧ x9 = .non) ∨ DIns C (RTab K C) u x9 H := by
  rcases h.begun hd hg hc with ⟨b, e⟩ | ⟨b, t, e, hT⟩
  · rcases hx with ⟨_, e9, _⟩ | ⟨b2, _⟩
    · exact .inl ⟨e, e9⟩
    · exact absurd b b2
  · rcases hx with ⟨b2, _⟩ | ⟨_, t9, t10, e9, _, hT9, _⟩
    · exact absurd b2 b
    · subst e
      subst e9
      exact .inr (dins_same hT hT9)
theorem alike_without {K : PySem.W.Frag} {C : Addr} {ns cs : List Str} {m : List (Pr × Bd)} {u x9 x10 : V} {H : Hp} (hd : Drawn ns) (hg : GoodB (spots ns) m) (hc : ("" : Str) ∉ cs) (h : Told K C ns (keptN ns cs) (tabM ns m) (placesW ns cs) u H) (hx : DueV K C ns cs m x9 x10 H) :
    (u = .non ∧ x10 = .non) ∨ DIns C (RTab K C) u x10 H := by
  rcases h.without hd hg hc with ⟨b, e⟩ | ⟨b, t, e, hT⟩
  · rcases hx with ⟨_, _, e9⟩ | ⟨b2, _⟩
    · exact .inl ⟨e, e9⟩
    · exact absurd b b2
  · rcases hx with ⟨b2, _⟩ | ⟨_, t9, t10, _, e9, _, hT9⟩
    · exact absurd b2 b
    · subst e
      subst e9
      exact .inr (dins_same hT hT9)
theorem DueV.same {K : PySem.W.Frag} {C : Addr} {ns cs : List Str} {m : List (Pr × Bd)} {x9 x10 : V} {H H' : Hp} (h : DueV K C ns cs m x9 x10 H) (s : Same H H') : DueV K C ns cs m x9 x10 H' :=
  h.imp id fun ⟨b, t9, t10, e9, e10, h9, h10⟩ => ⟨b, t9, t10, e9, e10, h9.same s, h10.same s⟩
/-- what is told as a list's choice by something that is none of it -/
theorem odd_eight {K : PySem.W.Frag} {H : Hp} {ns cs : List Str} {la dd : Addr} {z : Str} {k : Nat} {o : V} {xs : List V} (hd : Drawn ns) (hz : z ∉ ns ∨ z ∈ cs) (h1 : H la = some (.lst xs)) (h2 : H dd = some (.dK []))
    (h : [V.str "nosuch", V.str "", V.non, V.int 5, V.ref la, V.ref dd, V.bl true, V.str z][k]? = some o) : OddC K H ns cs o := by
  match k, h with
  | 0, h => cases h; exact .inr ⟨_, rfl, .inl fun w => absurd (hd.sub _ w) (by decide +kernel)⟩
  | 1, h => cases h; exact .inr ⟨_, rfl, .inl (List.nodup_cons.mp hd.nd).1⟩
  | 2, h => cases h; exact .inl ⟨"NoneType", ⟨.base .non, .inl rfl⟩, by decide⟩
  | 3, h => cases h; exact .inl ⟨"int", ⟨.base (.int _), .inr (.inr (.inl rfl))⟩, by decide⟩
  | 4, h => cases h; exact .inl ⟨"list", ⟨.base (.lst h1), .inr (.inr (.inr (.inr (.inl rfl))))⟩, by decide⟩
  | 5, h => cases h; exact .inl ⟨"dict", ⟨.base (.dK h2), .inr (.inr (.inr (.inr (.inr (.inr rfl)))))⟩, by decide⟩
  | 6, h => cases h; exact .inl ⟨"bool", ⟨.base (.bl _), .inr (.inl rfl)⟩, by decide⟩
  | 7, h => cases h; exact .inr ⟨_, rfl, hz⟩
  | k + 8, h => cases h
theorem wrong_five {K : PySem.W.Frag} {H : Hp} {dd : Addr} {z : Str} {k : Nat} {o : V} (h2 : H dd = some (.dK [])) (h : [V.non, V.int 5, V.str "ab", V.ref dd, V.str z][k]? = some o) : ∃ n, Ty K H o n ∧ isSeqN n = false := by
  match k, h with
  | 0, h => cases h; exact ⟨"NoneType", ⟨.base .non, .inl rfl⟩, by decide⟩
  | 1, h => cases h; exact ⟨"int", ⟨.base (.int _), .inr (.inr (.inl rfl))⟩, by decide⟩
  | 2, h => cases h; exact ⟨"str", ⟨.base (.str _), .inr (.inr (.inr (.inl rfl)))⟩, by decide⟩
  | 3, h => cases h; exact ⟨"dict", ⟨.base (.dK h2), .inr (.inr (.inr (.inr (.inr (.inr rfl)))))⟩, by decide⟩
  | 4, h => cases h; exact ⟨"str", ⟨.base (.str _), .inr (.inr (.inr (.inl rfl)))⟩, by decide⟩
  | k + 5, h => cases h
theorem first_or {ns cs : List Str} (hd : Drawn ns) : ∃ z, atI (cs.map V.str ++ [V.str "q"]) 0 = some (.str z) ∧ (z ∉ ns ∨ z ∈ cs) := by
  cases cs with
  | nil => exact ⟨"q", rfl, .inl fun w => absurd (hd.sub _ w) (by decide +kernel)⟩
  | cons c cs => exact ⟨c, atI_nat (j := 0) rfl, .inr List.mem_cons_self⟩
section
variable {P : Program} {w : World} {K : PySem.W.Frag} {mg : Str → Option Value} {base : Heap}
/-- behind the third part -/
def At3 (K : PySem.W.Frag) (C : Addr) (H0 : Hp) (a : Addr) (k : Nat) (σ : L2.St) (H : Hp) : Prop := ∃ (p l d t sm h : Addr) (v x9 x10 o wr : V) (ns cs : List Str) (m : List (Pr × Bd)) (u13 u14 : Option V),
  σ = [some (.ref a), some (.int k), some (.ref p), some (.ref l), some (.ref d), some (.ref t), some v, some (.ref sm), some (.ref h), some x9, some x10, some o, some wr, u13, u14] ∧
  Same H0 H ∧ H l = some (.lst (ns.map V.str)) ∧ Drawn ns ∧ 0 < ns.length ∧ ns.length ≤ 4 ∧ GoodB (spots ns) m ∧ Tab K C H t ns (tabM ns m) ∧ WaysV ns m v H ∧
  H sm = some (.lst (cs.map V.str)) ∧ cs.Nodup ∧ (∀ x ∈ cs, x ∈ ns) ∧ OddC K H ns cs o ∧ ∃ n, Ty K H wr n ∧ isSeqN n = false
theorem Pool.same {H H' : Hp} {p : Addr} {n : Nat} (h : Pool H p n) (s : Same H H') : Pool H' p n := by
  obtain ⟨a, b, c, e, z⟩ := h
  exact ⟨a, b, c, s _ _ e, z⟩
theorem rd_law3 {fl fO fB fX fQ C CE : Addr} {dO dB dX dQ fdl : FuncData} {cdv : Value} {A : Around} {outer : List Env} {s : Shared} {Hb : Hp} {E : XK}
    (gO : Got P w K mg base CX0 2 "_law_one" ["_law_pool_here", "_law_things"] (spOne K) fO dO)
    (gB : Got P w K mg base (L2.CX P w) 8 "begun" ["table", "names"] (spChange K C CE (fun ns _ => ns) placesB) fB dB) (gX : Got P w K mg base (L2.CX P w) 8 "without" ["table", "names"] (spChange K C CE keptN placesW) fX dX)
    (GQ : FnOk P w K mg base CX0 1 fQ dQ ["self", "other"] (spEq (RTab K C))) (bQ : Binds K dQ ["self", "other"] []) (hs : PySem.W.findIn K (.ref C) "__eq__" = some (some (.ref fQ))) (hf : PySem.W.isFn K (.ref fQ) = true) (hn : PySem.W.findIn K (.ref C) "__ne__" = some (some (.builtin "object.__ne__"))) (hm : PySem.W.mroIn K C (.type "object") = some true)
    (hr : Room 12 (A.deeper (PyProof.Rows.envOfC "law" (defScope sLaw) s.heap.objs.size fl cdv))) {u : TS}
    (hu : PSs (cxOf CX0 P w K mg base nLaw "law" (defScope sLaw) fl cdv A outer s Hb E).nox (lawFor.drop 11) u) :
    ∃ t, PSs (cxOf CX0 P w K mg base nLaw "law" (defScope sLaw) fl cdv A outer s Hb E).nox (lawFor.drop 8) t ∧
      ∀ (D : Ends) (H0 H : Hp) (a : Addr) (k : Nat) (σ : L2.St), At2 K C H0 a k σ H → (∀ σ' H', At3 K C H0 a k σ' H' → u D σ' H') → t D σ H := by
  refine ⟨_, pss_cons (ps_if (PW.pt (pw_or (pt_cmpR (op_neT GQ (hr.mono (by decide)) hs hf hn hm bQ pass0) (pe_call gB.G (hr.mono (by decide)) rfl gB.m gB.k gB.b .nil passNo (pa_cons (pv 5) (pa_cons (pv 8) pa_nil))) (pv 9) (nomark _))
        (pw_or1 (pt_cmpR (op_neT GQ (hr.mono (by decide)) hs hf hn hm bQ pass0) (pe_call gX.G (hr.mono (by decide)) rfl gX.m gX.k gX.b .nil passNo (pa_cons (pv 5) (pa_cons (pv 8) pa_nil))) (pv 10) (nomark _))))) (pss_one (ps_ret pe_bl)) pss_nil)
    (pss_cons (ps_set (i := 11) scLaw.nd rfl (Or.inr rfl) (pe_call gO.G (hr.mono (by decide)) rfl gO.m gO.k gO.b .nil pass0 (pa_cons (pv 2) (pa_cons (pe_lst (pa_cons pe_str (pa_cons pe_str (pa_cons pe_non (pa_cons pe_int (pa_cons (pe_lst (pa_cons pe_str pa_nil)) (pa_cons pe_dnewK (pa_cons pe_bl (pa_cons
        (pe_ix ix_list (pe_op op_cat (pv 7) (pe_lst (pa_cons pe_str pa_nil))) pe_int (fun _ _ => rfl)) pa_nil))))))))) pa_nil))))
    (pss_cons (ps_set (i := 12) scLaw.nd rfl (Or.inr rfl) (pe_call gO.G (hr.mono (by decide)) rfl gO.m gO.k gO.b .nil pass0 (pa_cons (pv 2) (pa_cons (pe_lst (pa_cons pe_non (pa_cons pe_int (pa_cons pe_str (pa_cons pe_dnewK (pa_cons (pe_ix ix_list (pv 3) pe_int (fun _ _ => rfl)) pa_nil)))))) pa_nil)))) hu)), ?_⟩
  rintro D H0 H a k σ ⟨p, l, d, t, sm, h, v, x9, x10, n, ns, cs, m, u11, u12, u13, u14, rfl, s0, hp, hP, hn1, hl, hd, h0, h4, hg, hT, hW, hsm, hcs, hsub, hsq, hdue⟩ q
  have nocs : ("" : Str) ∉ cs := fun z => (List.nodup_cons.mp hd.nd).1 (hsub _ z)
  refine ⟨_, rfl, _, rfl, t, .ref h, ns, tabM ns m, rfl, hT, .inl ⟨h, cs, rfl, ⟨hsq, hcs, hsub⟩, fun uu H1 s1 told1 => ⟨_, rfl, ?_⟩⟩⟩
  refine ne_tab (alike_begun hd hg nocs told1 (hdue.same s1)) fun H2 s2 => ⟨_, rfl, iteF ?_⟩
  have s02 := s1.trans s2
  refine ⟨_, rfl, _, rfl, t, .ref h, ns, tabM ns m, rfl, hT.same s02, .inl ⟨h, cs, rfl, ⟨Seq.same hsq s02, hcs, hsub⟩, fun uu2 H3 s3 told2 => ⟨_, rfl, ?_⟩⟩⟩
  refine ne_tab (alike_without hd hg nocs told2 (hdue.same (s02.trans s3))) fun H4 s4 => ⟨_, rfl, iteF ?_⟩
  have s04 := s02.trans (s3.trans s4)
  have hP4 := hP.same s04
  have hl4 := s04 _ _ hl
  have hsm4 := s04 _ _ hsm
  have hT4 := hT.same s04
  have hW4 := hW.same s04
  have s14 := s0.trans s04
  clear told1 told2 s1 s2 s3 s02 hdue hsq hT hW hl hsm hP s4 s0
  -- an odd one
  have nlp := lst_apart hl4 hP4
  have nsp := lst_apart hsm4 hP4
  obtain ⟨z, hz1, hz2⟩ := first_or (cs := cs) hd
  have l4 : cs.length ≤ 4 := Nat.le_trans (nodup_le hcs hsub) h4
  refine ⟨_, rfl, (by show 1 ≤ sizeLine; decide), fun la hla dd hdd => ⟨_, rfl, (by show 1 ≤ sizeLine; decide), fun aq haq => ?_⟩⟩
  have t1 := same_new hla (.lst [V.str "a"])
  have t2 := same_new hdd (.dK [])
  have t3 := same_new haq (.lst [V.str "q"])
  have t13 := (t1.trans t2).trans t3
  refine ⟨sm, aq, _, _, rfl, rfl, t13 _ _ hsm4, upd_same, ?_, fun ac hac => ?_⟩
  · rw [List.length_map]
    exact Nat.le_of_lt (small1000 (show cs.length + 1 ≤ 1000 by omega))
  have t4 := same_new hac (.lst (cs.map V.str ++ [V.str "q"]))
  have f1 := t4 _ _ (t3 _ _ (t2 _ _ upd_same))
  have f2 := t4 _ _ (t3 _ _ upd_same)
  have f0 := t13.trans t4
  refine ⟨ac, _, 0, .str z, rfl, rfl, SqL.of upd_same, hz1, (by show 8 ≤ sizeLine; decide), fun a8 ha8 => ?_⟩
  generalize upd (upd (upd (upd H4 la (.lst [V.str "a"])) dd (.dK [])) aq (.lst [V.str "q"])) ac (.lst (cs.map V.str ++ [V.str "q"])) = H5 at f1 f2 f0 ha8
  clear t1 t2 t3 t13 t4 haq hac hla hdd
  have hP5 := hP4.same f0
  have n8 := hP5.apart ha8
  have t5 := same_new ha8 (.lst [V.str "nosuch", V.str "", V.non, V.int 5, V.ref la, V.ref dd, V.bl true, V.str z])
  refine ⟨p, a8, _, n, rfl, hP5.new ha8, by omega, .inl (SqL.of upd_same), n8, Nat.succ_pos _, (by show 8 ≤ 10000; decide), fun i o oo hx hP6 => ?_⟩
  have nla : la ≠ p := by
    obtain ⟨a, b, c, e, _⟩ := hP5
    exact ne_of f1 e fun z => by cases z
  have ndd : dd ≠ p := by
    obtain ⟨a, b, c, e, _⟩ := hP5
    exact ne_of f2 e fun z => nomatch z
  have b6 : But p H4 (upd (upd H5 a8 (.lst [V.str "nosuch", V.str "", V.non, V.int 5, V.ref la, V.ref dd, V.bl true, V.str z])) p oo) := (But.of (f0.trans t5)).put
  have g1 := (But.of t5).put (o := oo) (p := p) _ _ f1 nla
  have g2 := (But.of t5).put (o := oo) (p := p) _ _ f2 ndd
  have ho : OddC K (upd (upd H5 a8 (.lst [V.str "nosuch", V.str "", V.non, V.int 5, V.ref la, V.ref dd, V.bl true, V.str z])) p oo) ns cs o := odd_eight hd hz2 g1 g2 hx
  have hxo := hx
  generalize upd (upd H5 a8 (.lst [V.str "nosuch", V.str "", V.non, V.int 5, V.ref la, V.ref dd, V.bl true, V.str z])) p oo = H6 at hP6 b6 ho g1 g2
  have hT6 := hT4.but hP4 b6
  have hW6 : WaysV ns m v H6 := hW4.imp id fun ⟨h, r, e, z⟩ => ⟨h, r, e, z.but hP4 b6⟩
  have s6 := same_but s14 hp b6
  have hl6 := b6 _ _ hl4 nlp
  have hsm6 := b6 _ _ hsm4 nsp
  clear f1 f2 f0 ha8 t5 hP5 hT4 hW4 hl4 hsm4 s14 b6 hP4
  -- a wrong list
  obtain ⟨c, hc⟩ : ∃ c, ns[0]? = some c := by
    cases ns with
    | nil => exact absurd h0 (by decide)
    | cons c ns => exact ⟨c, rfl⟩
  have hc0 : atI (ns.map V.str) 0 = some (.str c) := atI_nat (j := 0) (by rw [List.getElem?_map, hc]; rfl)
  refine ⟨_, rfl, fun d1 hd1 => ⟨_, rfl, l, _, 0, .str c, rfl, rfl, SqL.of (same_new hd1 _ _ _ hl6), hc0, (by show 5 ≤ sizeLine; decide), fun a5 ha5 => ?_⟩⟩
  have t1 := same_new hd1 (.dK [])
  have f1 : upd H6 d1 (.dK []) d1 = some (.dK []) := upd_same
  generalize upd H6 d1 (.dK []) = H7 at t1 f1 ha5
  have hP7 := hP6.same t1
  have n5 := hP7.apart ha5
  have t5 := same_new ha5 (.lst [V.non, V.int 5, V.str "ab", V.ref d1, V.str c])
  refine ⟨p, a5, _, n + 1, rfl, hP7.new ha5, by omega, .inl (SqL.of upd_same), n5, Nat.succ_pos _, (by show 5 ≤ 10000; decide), fun i wr oo hx hP8 => ?_⟩
  have nd1 : d1 ≠ p := by
    obtain ⟨a, b, c, e, _⟩ := hP7
    exact ne_of f1 e fun z => nomatch z
  have b8 : But p H6 (upd (upd H7 a5 (.lst [V.non, V.int 5, V.str "ab", V.ref d1, V.str c])) p oo) := (But.of (t1.trans t5)).put
  have hwr := wrong_five (K := K) ((But.of t5).put (o := oo) (p := p) _ _ f1 nd1) hx
  have ho8 : OddC K (upd (upd H7 a5 (.lst [V.non, V.int 5, V.str "ab", V.ref d1, V.str c])) p oo) ns cs o := odd_eight hd hz2 (b8 _ _ g1 nla) (b8 _ _ g2 ndd) hxo
  generalize upd (upd H7 a5 (.lst [V.non, V.int 5, V.str "ab", V.ref d1, V.str c])) p oo = H8 at hP8 b8 hwr ho8
  exact q _ _ ⟨p, l, d, t, sm, h, v, x9, x10, o, wr, ns, cs, m, u13, u14, rfl, same_but s6 hp b8, b8 _ _ hl6 nlp, hd, h0, h4, hg, hT6.but hP6 b8, hW6.imp id (fun ⟨h, r, e, z⟩ => ⟨h, r, e, z.but hP6 b8⟩), b8 _ _ hsm6 nsp, hcs, hsub, ho8, hwr⟩
end
end Rw
set_option Elab.async false
set_option linter.all false
set_option maxRecDepth 100000
set_option maxHeartbeats 4000000
namespace Rw
open PySem L2
/-! ### what stays when tables of code objects grow -/
section
variable {K : PySem.W.Frag} {H H' : Hp}
theorem sqL_ext {a : Addr} {xs : List V} (e : LamX.ExtN H H') (h : SqL K H a xs) : SqL K H' a xs := by
  rcases h with (h | ⟨o, h⟩) | h
  · exact .inl (.inl (e _ _ h fun _ z => nomatch z))
  · exact .inl (.inr ⟨o, e _ _ h fun _ z => nomatch z⟩)
  · exact .inr h
theorem sqT_ext {a : Addr} {xs : List V} (e : LamX.ExtN H H') (h : SqT K H a xs) : SqT K H' a xs := by
  rcases h with (h | ⟨o, h⟩) | h
  · exact .inl (.inl (e _ _ h fun _ z => nomatch z))
  · exact .inl (.inr ⟨o, e _ _ h fun _ z => nomatch z⟩)
  · exact .inr h
theorem Tab.ext {C t : Addr} {ns : List Str} {m : List (Pr × Bd)} (e : LamX.ExtN H H') (h : Tab K C H t ns m) : Tab K C H' t ns m := by
  obtain ⟨ok, dx, l, d, e1, e2, kvs, e3, r⟩ := h
  refine ⟨ok, dx, l, d, e _ _ e1 (fun _ z => nomatch z), e _ _ e2 (fun _ z => nomatch z), kvs, e _ _ e3 (fun _ z => nomatch z), Rw.Paired.imp r fun x y _ z => ⟨z.1, ?_⟩⟩
  obtain ⟨a, ea, h⟩ := z.2
  exact ⟨a, ea, sqT_ext e h⟩
theorem WaysV.ext {ns : List Str} {m : List (Pr × Bd)} {v : V} (e : LamX.ExtN H H') (h : WaysV ns m v H) : WaysV ns m v H' := h.imp id fun ⟨h, r, er, kvs, e3, z⟩ =>
  ⟨h, r, er, kvs, e _ _ e3 (fun _ z => nomatch z), Rw.Paired.imp z fun x y _ w => ⟨w.1, w.2.mono fun a xs q => e _ _ q fun _ z => nomatch z⟩⟩
theorem Ty.ext {v : V} {n : String} (s : LamX.ExtN H H') (h : Ty K H v n) : Ty K H' v n := by
  obtain ⟨h, m⟩ := h
  refine ⟨?_, m⟩
  cases h with
  | base b =>
    refine .base ?_
    cases b with
    | non => exact .non
    | bl x => exact .bl x
    | int i => exact .int i
    | str x => exact .str x
    | lst e => exact .lst (s _ _ e fun _ z => nomatch z)
    | frz e => exact .frz (s _ _ e fun _ z => nomatch z)
    | tup e => exact .tup (s _ _ e fun _ z => nomatch z)
    | dK e => exact .dK (s _ _ e fun _ z => nomatch z)
    | dT e => exact .dT (s _ _ e fun _ z => nomatch z)
    | flt x => exact .flt x
  | byt b => exact .byt b
  | set e => exact .set (s _ _ e fun _ z => nomatch z)
  | kList e c => exact .kList e c
  | kTuple e c => exact .kTuple e c
  | kDict e c => exact .kDict e c
  | fTuple e => exact .fTuple (s _ _ e fun _ z => nomatch z)
  | fDict e => exact .fDict (s _ _ e fun _ z => nomatch z)
theorem OddC.ext {ns cs : List Str} {o : V} (e : LamX.ExtN H H') (h : OddC K H ns cs o) : OddC K H' ns cs o := h.elim (fun ⟨n, t, z⟩ => .inl ⟨n, t.ext e, z⟩) .inr
end
/-- what is known behind the third part -/
structure Core (K : PySem.W.Frag) (C : Addr) (T : List (Addr × Str)) (zs : List Int) (a l t sm : Addr) (v o wr : V) (ns cs : List Str) (m : List (Pr × Bd)) (H : Hp) : Prop where
  scr : SqL K H a (zs.map V.int)
  hl : H l = some (.lst (ns.map V.str))
  d : Drawn ns
  pos : 0 < ns.length
  four : ns.length ≤ 4
  g : GoodB (spots ns) m
  tab : Tab K C H t ns (tabM ns m)
  ways : WaysV ns m v H
  hsm : H sm = some (.lst (cs.map V.str))
  nd : cs.Nodup
  sub : ∀ x ∈ cs, x ∈ ns
  odd : OddC K H ns cs o
  wrong : ∃ n, Ty K H wr n ∧ isSeqN n = false
  tabs : LamX.Tabs T H
theorem Core.same {K : PySem.W.Frag} {C : Addr} {T : List (Addr × Str)} {zs : List Int} {a l t sm : Addr} {v o wr : V} {ns cs : List Str} {m : List (Pr × Bd)} {H H' : Hp} (c : Core K C T zs a l t sm v o wr ns cs m H) (s : Same H H') : Core K C T zs a l t sm v o wr ns cs m H' :=
  ⟨s.seq c.scr, s _ _ c.hl, c.d, c.pos, c.four, c.g, c.tab.same s, c.ways.same s, s _ _ c.hsm, c.nd, c.sub, OddC.same c.odd s, c.wrong.imp fun n z => ⟨z.1.same s, z.2⟩, c.tabs.ext s⟩
theorem Core.ext {K : PySem.W.Frag} {C : Addr} {T : List (Addr × Str)} {zs : List Int} {a l t sm : Addr} {v o wr : V} {ns cs : List Str} {m : List (Pr × Bd)} {H H' : Hp} (c : Core K C T zs a l t sm v o wr ns cs m H) (e : LamX.ExtN H H') (tb : LamX.Tabs T H') : Core K C T zs a l t sm v o wr ns cs m H' :=
  ⟨sqL_ext e c.scr, e _ _ c.hl (fun _ z => nomatch z), c.d, c.pos, c.four, c.g, c.tab.ext e, c.ways.ext e, e _ _ c.hsm (fun _ z => nomatch z), c.nd, c.sub, c.odd.ext e, c.wrong.imp fun n z => ⟨z.1.ext e, z.2⟩, tb⟩
/-- the list of what is met: errors of names, with their places -/
def Met (H : Hp) (f : Addr) (is : List Int) : Prop := ∃ rs : List Addr, H f = some (.lst (rs.map V.ref)) ∧ Paired (fun (i : Int) r => H r = some (.tup [.str "names", .int i])) is rs
section
variable {P : Program} {w : World} {K : PySem.W.Frag} {mg : Str → Option Value} {base : Heap}
def At4 (K : PySem.W.Frag) (C : Addr) (T : List (Addr × Str)) (zs : List Int) (a : Addr) (k : Nat) (σ : L2.St) (H : Hp) : Prop := ∃ (p l d t sm h f : Addr) (v x9 x10 o wr : V) (ns cs : List Str) (m : List (Pr × Bd)) (u14 : Option V),
  σ = [some (.ref a), some (.int k), some (.ref p), some (.ref l), some (.ref d), some (.ref t), some v, some (.ref sm), some (.ref h), some x9, some x10, some o, some wr, some (.ref f), u14] ∧
  Core K C T zs a l t sm v o wr ns cs m H ∧ Met H f [(cs.length : Nat)]
theorem rd_law4 {fl fM fB fX C CE c Pt : Addr} {dM dB dX fdl : FuncData} {A : Around} {outer : List Env} {s : Shared} {Hb : Hp} {E : XK}
    (FM : Fun K "_law_met" "_law_met" sMet fM dM) (bM : Binds K dM ["_law_ask"] []) (mM : mg "_law_met" = some (.ref fM)) (TB : LamX.TabB base mg c Pt) (mE : mg "BadNames" = some (.ref CE)) (T : XfC K CE) (hno : PySem.W.findIn K (.ref CE) "index" = some none) (hx1 : PySem.W.exmOne K (.ref CE) (.ref CE) = some true)
    (gB : Got P w K mg base (L2.CX P w) 8 "begun" ["table", "names"] (spChange K C CE (fun ns _ => ns) placesB) fB dB)
    (hr : Room 12 (A.deeper (PyProof.Rows.envOfC "law" (defScope sLaw) s.heap.objs.size fl (.ref c)))) {u : TS}
    (hu : PSs (cxOf CX0 P w K mg base nLaw "law" (defScope sLaw) fl (.ref c) A outer s Hb E).nox (lawFor.drop 12) u) :
    ∃ t, PSs (cxOf CX0 P w K mg base nLaw "law" (defScope sLaw) fl (.ref c) A outer s Hb E).nox (lawFor.drop 11) t ∧
      ∀ (D : Ends) (H0 H : Hp) (a : Addr) (zs : List Int) (k : Nat) (σ : L2.St), SqL K H0 a (zs.map V.int) → LamX.Tabs [(Pt, "law.<locals>.<lambda>")] H0 → At3 K C H0 a k σ H → (∀ σ' H', At4 K C [(Pt, "law.<locals>.<lambda>")] zs a k σ' H' → u D σ' H') → t D σ H := by
  refine ⟨_, pss_cons (ps_set (i := 13) scLaw.nd rfl (Or.inl rfl) (pe_lst (pa_cons
    (pe_lamF (k := 9) (T := [(Pt, "law.<locals>.<lambda>")]) (TT := TMet CE) FM bM rfl mM scMet rfl (Or.inl rfl) (fun _ => met_gives mE T hno hx1 _) TB rfl rfl (hr.mono (by decide)) (LamX.lamS_by (sc := defScope sLaw) (by decide +kernel)) rfl (fun _ _ _ _ _ => rfl)
      (fun A o s H E f c' hr => pe_callS gB.G (hr.mono (by decide)) rfl gB.m gB.k gB.b (fun σ => passAt (takes_of rfl rfl rfl rfl) σ) (pa_cons (pv 5) (pa_cons (pe_op op_cat (pv 7) (pe_lst (pa_cons (pv 11) (pa_cons pe_non pa_nil)))) pa_nil)))) pa_nil))) hu, ?_⟩
  rintro D H0 H a zs k σ hS hTb ⟨p, l, d, t, sm, h, v, x9, x10, o, wr, ns, cs, m, u13, u14, rfl, s0, hl, hd, h0, h4, hg, hT, hW, hsm, hcs, hsub, ho, hwr⟩ q
  have core : Core K C [(Pt, "law.<locals>.<lambda>")] zs a l t sm v o wr ns cs m H := ⟨s0.seq hS, hl, hd, h0, h4, hg, hT, hW, hsm, hcs, hsub, ho, hwr, hTb.ext s0⟩
  clear hl hd h0 h4 hg hT hW hsm hcs hsub ho hwr hTb hS s0
  refine ⟨core.tabs, fun H1 e1 tb1 => ?_⟩
  have c1 := core.ext e1 tb1
  refine ⟨_, rfl, _, rfl, _, rfl, (by show 2 ≤ sizeLine; decide), fun a1 h1 => ?_⟩
  have l4 : cs.length ≤ 4 := Nat.le_trans (nodup_le c1.nd c1.sub) c1.four
  have s1 := same_new h1 (.lst [o, V.non])
  refine ⟨sm, a1, _, _, rfl, rfl, s1 _ _ c1.hsm, upd_same, ?_, fun a2 h2 => ?_⟩
  · rw [List.length_map]
    exact Nat.le_of_lt (small1000 (show cs.length + 2 ≤ 1000 by omega))
  have s2 := s1.trans (same_new h2 (.lst (cs.map V.str ++ [o, V.non])))
  have c2 := c1.same s2
  refine ⟨t, .ref a2, ns, tabM ns m, rfl, c2.tab, .inr ⟨.int (cs.length : Nat), .odd a2 cs o [.non] (.inl (SqL.of upd_same)) c2.nd c2.sub c2.odd, (fun z => nomatch z), fun dd H3 s3 hdd hx => ?_⟩⟩
  refine ⟨rfl, dd, _, _, rfl, hx, rfl, fun r1 hr1 => ⟨(by show 1 ≤ sizeLine; decide), fun f hf => ?_⟩⟩
  have s4 := s3.trans ((same_new hr1 (.tup [V.str "names", V.int (cs.length : Nat)])).trans (same_new hf (.lst [V.ref r1])))
  exact q _ _ ⟨p, l, d, t, sm, h, f, v, x9, x10, o, wr, ns, cs, m, u14, rfl, c2.same s4, [r1], upd_same, .cons (same_new hf _ _ _ upd_same) .nil⟩
end
end Rw
set_option Elab.async false
set_option linter.all false
set_option maxRecDepth 100000
set_option maxHeartbeats 4000000
namespace Rw
open PySem L2
/-! ### the list of what is met grows -/
section
variable {K : PySem.W.Frag} {H : Hp} {f r : Addr} {rs ys : List V}
theorem put_keep {b : Addr} {o : HO} (hf : H f = some (.lst (.ref r :: rs))) (hb : H b = some o) (n : ∀ r rs, o ≠ .lst (.ref r :: rs)) : upd H f (.lst ys) b = some o := by
  rw [upd_ne (ne_of hb hf (n _ _))]
  exact hb
theorem strs_no {ns : List Str} (r : Addr) (rs : List V) : HO.lst (ns.map V.str) ≠ .lst (.ref r :: rs) := fun z => by
  injection z with z
  cases ns with
  | nil => cases z
  | cons x ns => injection z with z _; cases z
theorem ints_no {zs : List Int} (r : Addr) (rs : List V) : HO.lst (zs.map V.int) ≠ .lst (.ref r :: rs) := fun z => by
  injection z with z
  cases zs with
  | nil => cases z
  | cons x ns => injection z with z _; cases z
theorem sqL_app {a : Addr} {zs : List Int} (hf : H f = some (.lst (.ref r :: rs))) (h : SqL K H a (zs.map V.int)) : SqL K (upd H f (.lst ys)) a (zs.map V.int) := by
  rcases h with (h | ⟨o, h⟩) | h
  · exact .inl (.inl (put_keep hf h ints_no))
  · exact .inl (.inr ⟨o, put_keep hf h fun _ _ z => nomatch z⟩)
  · exact .inr h
theorem sqT_app {a : Addr} {xs : List V} (hf : H f = some (.lst (.ref r :: rs))) (h : SqT K H a xs) : SqT K (upd H f (.lst ys)) a xs := by
  rcases h with (h | ⟨o, h⟩) | h
  · exact .inl (.inl (put_keep hf h fun _ _ z => nomatch z))
  · exact .inl (.inr ⟨o, put_keep hf h fun _ _ z => nomatch z⟩)
  · exact .inr h
theorem Tab.app {C t : Addr} {ns : List Str} {m : List (Pr × Bd)} (hf : H f = some (.lst (.ref r :: rs))) (h : Tab K C H t ns m) : Tab K C (upd H f (.lst ys)) t ns m := by
  obtain ⟨ok, dx, l, d, e1, e2, kvs, e3, r⟩ := h
  refine ⟨ok, dx, l, d, put_keep hf e1 (fun _ _ z => nomatch z), put_keep hf e2 strs_no, kvs, put_keep hf e3 (fun _ _ z => nomatch z), Rw.Paired.imp r fun x y _ z => ⟨z.1, ?_⟩⟩
  obtain ⟨a, ea, h⟩ := z.2
  exact ⟨a, ea, sqT_app hf h⟩
theorem WaysV.app {ns : List Str} {m : List (Pr × Bd)} {v : V} (hf : H f = some (.lst (.ref r :: rs))) (h : WaysV ns m v H) : WaysV ns m v (upd H f (.lst ys)) := h.imp id fun ⟨h, r, er, kvs, e3, z⟩ =>
  ⟨h, r, er, kvs, put_keep hf e3 (fun _ _ z => nomatch z), Rw.Paired.imp z fun x y _ w => ⟨w.1, w.2.mono fun a xs q => put_keep hf q fun _ _ z => nomatch z⟩⟩
theorem Ty.app {v : V} {n : String} (hf : H f = some (.lst (.ref r :: rs))) (h : Ty K H v n) : Ty K (upd H f (.lst ys)) v n := by
  obtain ⟨h, m⟩ := h
  refine ⟨?_, m⟩
  cases h with
  | base b =>
    refine .base ?_
    cases b with
    | non => exact .non
    | bl x => exact .bl x
    | int i => exact .int i
    | str x => exact .str x
    | @lst a xs e =>
      by_cases c : a = f
      · subst c
        exact .lst upd_same
      · exact .lst (by rw [upd_ne c]; exact e)
    | frz e => exact .frz (put_keep hf e fun _ _ z => nomatch z)
    | tup e => exact .tup (put_keep hf e fun _ _ z => nomatch z)
    | dK e => exact .dK (put_keep hf e fun _ _ z => nomatch z)
    | dT e => exact .dT (put_keep hf e fun _ _ z => nomatch z)
    | flt x => exact .flt x
  | byt b => exact .byt b
  | set e => exact .set (put_keep hf e fun _ _ z => nomatch z)
  | kList e c => exact .kList e c
  | kTuple e c => exact .kTuple e c
  | kDict e c => exact .kDict e c
  | fTuple e => exact .fTuple (put_keep hf e fun _ _ z => nomatch z)
  | fDict e => exact .fDict (put_keep hf e fun _ _ z => nomatch z)
theorem OddC.app {ns cs : List Str} {o : V} (hf : H f = some (.lst (.ref r :: rs))) (h : OddC K H ns cs o) : OddC K (upd H f (.lst ys)) ns cs o := h.elim (fun ⟨n, t, z⟩ => .inl ⟨n, t.app hf, z⟩) .inr
theorem tabs_app {T : List (Addr × Str)} (hf : H f = some (.lst (.ref r :: rs))) (h : LamX.Tabs T H) : LamX.Tabs T (upd H f (.lst ys)) := fun p hp => by
  obtain ⟨ps, h1, h2, h3⟩ := h p hp
  refine ⟨ps, put_keep hf h1 (fun _ _ z => nomatch z), h2, fun pos cv hc => ?_⟩
  obtain ⟨c, e1, e2⟩ := h3 pos cv hc
  exact ⟨c, e1, put_keep hf e2 fun _ _ z => nomatch z⟩
theorem Core.app {C : Addr} {T : List (Addr × Str)} {zs : List Int} {a l t sm : Addr} {v o wr : V} {ns cs : List Str} {m : List (Pr × Bd)} (hf : H f = some (.lst (.ref r :: rs))) (c : Core K C T zs a l t sm v o wr ns cs m H) : Core K C T zs a l t sm v o wr ns cs m (upd H f (.lst ys)) :=
  ⟨sqL_app hf c.scr, put_keep hf c.hl strs_no, c.d, c.pos, c.four, c.g, c.tab.app hf, c.ways.app hf, put_keep hf c.hsm strs_no, c.nd, c.sub, c.odd.app hf, c.wrong.imp fun n z => ⟨z.1.app hf, z.2⟩, tabs_app hf c.tabs⟩
theorem Met.same {H' : Hp} {f : Addr} {is : List Int} (h : Met H f is) (s : Same H H') : Met H' f is := by
  obtain ⟨rs, e, p⟩ := h
  exact ⟨rs, s _ _ e, Rw.Paired.imp p fun x y _ z => s _ _ z⟩
theorem Met.ext {H' : Hp} {f : Addr} {is : List Int} (h : Met H f is) (s : LamX.ExtN H H') : Met H' f is := by
  obtain ⟨rs, e, p⟩ := h
  exact ⟨rs, s _ _ e (fun _ z => nomatch z), Rw.Paired.imp p fun x y _ z => s _ _ z fun _ z => nomatch z⟩
/-- one more -/
theorem met_app {C : Addr} {T : List (Addr × Str)} {zs : List Int} {a l t sm : Addr} {v o wr : V} {ns cs : List Str} {m : List (Pr × Bd)} {f r : Addr} {i j : Int} {is : List Int} (c : Core K C T zs a l t sm v o wr ns cs m H) (h : Met H f (i :: is)) (hr : H r = none) (hl : is.length ≤ 3) :
    ∃ xs, upd H r (.tup [.str "names", .int j]) f = some (.lst xs) ∧ xs.length < sizeLine ∧ Core K C T zs a l t sm v o wr ns cs m (upd (upd H r (.tup [.str "names", .int j])) f (.lst (xs ++ [.ref r]))) ∧ Met (upd (upd H r (.tup [.str "names", .int j])) f (.lst (xs ++ [.ref r]))) f (i :: is ++ [j]) := by
  obtain ⟨rs, e, p⟩ := h
  have hlen := Paired.length p
  have s1 := same_new hr (.tup [.str "names", .int j])
  cases rs with
  | nil => cases p
  | cons r0 rs =>
    have e1 := s1 _ _ e
    refine ⟨_, e1, small1000 (by rw [List.length_map, ← hlen, List.length_cons]; omega), (c.same s1).app e1, (r0 :: rs) ++ [r], ?_, Paired.snoc (Rw.Paired.imp p fun x y _ z => put_keep e1 (s1 _ _ z) fun _ _ w => nomatch w) (put_keep e1 upd_same fun _ _ w => nomatch w)⟩
    rw [upd_same, List.map_append]
    rfl
end
section
variable {P : Program} {w : World} {K : PySem.W.Frag} {mg : Str → Option Value} {base : Heap}
def At5 (K : PySem.W.Frag) (C : Addr) (T : List (Addr × Str)) (zs : List Int) (a : Addr) (k : Nat) (σ : L2.St) (H : Hp) : Prop := ∃ (p l d t sm h f : Addr) (v x9 x10 o wr : V) (ns cs : List Str) (m : List (Pr × Bd)) (u14 : Option V),
  σ = [some (.ref a), some (.int k), some (.ref p), some (.ref l), some (.ref d), some (.ref t), some v, some (.ref sm), some (.ref h), some x9, some x10, some o, some wr, some (.ref f), u14] ∧
  Core K C T zs a l t sm v o wr ns cs m H ∧ Met H f [(cs.length : Nat), (cs.length : Nat), 0, 0]
theorem rd_law5 {fl fM fB fX C CE c Pt : Addr} {dM dB dX fdl : FuncData} {A : Around} {outer : List Env} {s : Shared} {Hb : Hp} {E : XK}
    (FM : Fun K "_law_met" "_law_met" sMet fM dM) (bM : Binds K dM ["_law_ask"] []) (mM : mg "_law_met" = some (.ref fM)) (TB : LamX.TabB base mg c Pt) (mE : mg "BadNames" = some (.ref CE)) (T : XfC K CE) (hno : PySem.W.findIn K (.ref CE) "index" = some none) (hx1 : PySem.W.exmOne K (.ref CE) (.ref CE) = some true)
    (gB : Got P w K mg base (L2.CX P w) 8 "begun" ["table", "names"] (spChange K C CE (fun ns _ => ns) placesB) fB dB) (gX : Got P w K mg base (L2.CX P w) 8 "without" ["table", "names"] (spChange K C CE keptN placesW) fX dX)
    (hr : Room 12 (A.deeper (PyProof.Rows.envOfC "law" (defScope sLaw) s.heap.objs.size fl (.ref c)))) {u : TS}
    (hu : PSs (cxOf CX0 P w K mg base nLaw "law" (defScope sLaw) fl (.ref c) A outer s Hb E).nox (lawFor.drop 15) u) :
    ∃ t, PSs (cxOf CX0 P w K mg base nLaw "law" (defScope sLaw) fl (.ref c) A outer s Hb E).nox (lawFor.drop 12) t ∧
      ∀ (D : Ends) (H : Hp) (a : Addr) (zs : List Int) (k : Nat) (σ : L2.St), At4 K C [(Pt, "law.<locals>.<lambda>")] zs a k σ H → (∀ σ' H', At5 K C [(Pt, "law.<locals>.<lambda>")] zs a k σ' H' → u D σ' H') → t D σ H := by
  refine ⟨_, pss_cons (ps_expr (pe_bm PySem.F.plainAttrs_list PySem.F.slot_list_append PySem.F.type_list_append mt_append (pv 13) (pa_cons
    (pe_lamF (k := 9) (T := [(Pt, "law.<locals>.<lambda>")]) (TT := TMet CE) FM bM rfl mM scMet rfl (Or.inl rfl) (fun _ => met_gives mE T hno hx1 _) TB rfl rfl (hr.mono (by decide)) (LamX.lamS_by (sc := defScope sLaw) (by decide +kernel)) rfl (fun _ _ _ _ _ => rfl)
      (fun A o s H E f c' hr => pe_callS gX.G (hr.mono (by decide)) rfl gX.m gX.k gX.b (fun σ => passAt (takes_of rfl rfl rfl rfl) σ) (pa_cons (pv 5) (pa_cons (pe_op op_cat (pv 7) (pe_lst (pa_cons (pv 11) (pa_cons pe_non pa_nil)))) pa_nil)))) pa_nil)))
    (pss_cons (ps_expr (pe_bm PySem.F.plainAttrs_list PySem.F.slot_list_append PySem.F.type_list_append mt_append (pv 13) (pa_cons
    (pe_lamF (k := 9) (T := [(Pt, "law.<locals>.<lambda>")]) (TT := TMet CE) FM bM rfl mM scMet rfl (Or.inl rfl) (fun _ => met_gives mE T hno hx1 _) TB rfl rfl (hr.mono (by decide)) (LamX.lamS_by (sc := defScope sLaw) (by decide +kernel)) rfl (fun _ _ _ _ _ => rfl)
      (fun A o s H E f c' hr => pe_callS gB.G (hr.mono (by decide)) rfl gB.m gB.k gB.b (fun σ => passAt (takes_of rfl rfl rfl rfl) σ) (pa_cons (pv 5) (pa_cons (pv 12) pa_nil)))) pa_nil)))
    (pss_cons (ps_expr (pe_bm PySem.F.plainAttrs_list PySem.F.slot_list_append PySem.F.type_list_append mt_append (pv 13) (pa_cons
    (pe_lamF (k := 9) (T := [(Pt, "law.<locals>.<lambda>")]) (TT := TMet CE) FM bM rfl mM scMet rfl (Or.inl rfl) (fun _ => met_gives mE T hno hx1 _) TB rfl rfl (hr.mono (by decide)) (LamX.lamS_by (sc := defScope sLaw) (by decide +kernel)) rfl (fun _ _ _ _ _ => rfl)
      (fun A o s H E f c' hr => pe_callS gX.G (hr.mono (by decide)) rfl gX.m gX.k gX.b (fun σ => passAt (takes_of rfl rfl rfl rfl) σ) (pa_cons (pv 5) (pa_cons (pv 12) pa_nil)))) pa_nil))) hu)), ?_⟩
  rintro D H a zs k σ ⟨p, l, d, t, sm, h, f, v, x9, x10, o, wr, ns, cs, m, u14, rfl, core, met⟩ q
  have l4 : cs.length ≤ 4 := Nat.le_trans (nodup_le core.nd core.sub) core.four
  -- without, an odd one
  obtain ⟨rs, hf, _⟩ := id met
  refine ⟨_, rfl, .inl ⟨rfl, _, SqL.of hf⟩, core.tabs, fun H1 e1 tb1 => ?_⟩
  have c1 := core.ext e1 tb1
  have m1 := met.ext e1
  refine ⟨_, rfl, _, rfl, _, rfl, (by show 2 ≤ sizeLine; decide), fun a1 h1 => ?_⟩
  have s1 := same_new h1 (.lst [o, V.non])
  refine ⟨sm, a1, _, _, rfl, rfl, s1 _ _ c1.hsm, upd_same, ?_, fun a2 h2 => ?_⟩
  · rw [List.length_map]
    exact Nat.le_of_lt (small1000 (show cs.length + 2 ≤ 1000 by omega))
  have s2 := s1.trans (same_new h2 (.lst (cs.map V.str ++ [o, V.non])))
  have c2 := c1.same s2
  refine ⟨t, .ref a2, ns, tabM ns m, rfl, c2.tab, .inr ⟨.int (cs.length : Nat), .odd a2 cs o [.non] (.inl (SqL.of upd_same)) c2.nd c2.sub c2.odd, (fun z => nomatch z), fun dd H3 s3 hdd hx => ?_⟩⟩
  refine ⟨rfl, dd, _, _, rfl, hx, rfl, fun r hr1 => ?_⟩
  obtain ⟨xs, ex, lt, c4, m4⟩ := met_app (j := (cs.length : Nat)) (c2.same s3) (m1.same (s2.trans s3)) hr1 (by decide)
  refine ⟨f, xs, _, rfl, rfl, ex, lt, ?_⟩
  clear ex lt hr1 hx hdd s3 c2 s2 h2 s1 h1 c1 m1 tb1 e1 hf met core
  generalize upd (upd H3 r _) f (.lst (xs ++ [V.ref r])) = H4 at c4 m4
  -- begun, a wrong list
  obtain ⟨rs, hf, _⟩ := id m4
  refine ⟨_, rfl, .inl ⟨rfl, _, SqL.of hf⟩, c4.tabs, fun H1 e1 tb1 => ?_⟩
  have c1 := c4.ext e1 tb1
  have m1 := m4.ext e1
  obtain ⟨n5, t5, i5⟩ := c1.wrong
  refine ⟨_, rfl, _, rfl, t, wr, ns, tabM ns m, rfl, c1.tab, .inr ⟨.int 0, .none wr n5 t5 i5, (fun z => nomatch z), fun dd H3 s3 hdd hx => ?_⟩⟩
  refine ⟨rfl, dd, _, _, rfl, hx, rfl, fun r hr1 => ?_⟩
  obtain ⟨xs, ex, lt, c6, m6⟩ := met_app (j := 0) (c1.same s3) (m1.same s3) hr1 (by show 1 ≤ 3; decide)
  refine ⟨f, xs, _, rfl, rfl, ex, lt, ?_⟩
  clear ex lt hr1 hx hdd s3 c1 m1 tb1 e1 hf
  generalize upd (upd H3 r _) f (.lst (xs ++ [V.ref r])) = H6 at c6 m6
  -- without, a wrong list
  obtain ⟨rs, hf, _⟩ := id m6
  refine ⟨_, rfl, .inl ⟨rfl, _, SqL.of hf⟩, c6.tabs, fun H1 e1 tb1 => ?_⟩
  have c1 := c6.ext e1 tb1
  have m1 := m6.ext e1
  obtain ⟨n5, t5, i5⟩ := c1.wrong
  refine ⟨_, rfl, _, rfl, t, wr, ns, tabM ns m, rfl, c1.tab, .inr ⟨.int 0, .none wr n5 t5 i5, (fun z => nomatch z), fun dd H3 s3 hdd hx => ?_⟩⟩
  refine ⟨rfl, dd, _, _, rfl, hx, rfl, fun r hr1 => ?_⟩
  obtain ⟨xs, ex, lt, c8, m8⟩ := met_app (j := 0) (c1.same s3) (m1.same s3) hr1 (by show 2 ≤ 3; decide)
  exact ⟨f, xs, _, rfl, rfl, ex, lt, q _ _ ⟨p, l, d, t, sm, h, f, v, x9, x10, o, wr, ns, cs, m, u14, rfl, c8, m8⟩⟩
end
end Rw
set_option Elab.async false
set_option linter.all false
set_option maxRecDepth 100000
set_option maxHeartbeats 4000000
namespace Rw
open PySem L2
/-! ### the law's loop, last part: what was met; begun of none, without all -/
abbrev dataM (n : Int) : PyData := .list [.tuple [.str "names", .int n], .tuple [.str "names", .int n], .tuple [.str "names", .int 0], .tuple [.str "names", .int 0]]
theorem dp_tup {K : PySem.W.Frag} {H : Hp} {r : Addr} {i : Int} (h : H r = some (.tup [.str "names", .int i])) : Dp K H (.ref r) (.tuple [.str "names", .int i]) := .tup (SqT.of h) (.cons (.str _) (.cons (.int _) .nil))
theorem dp_met {K : PySem.W.Frag} {H : Hp} {f : Addr} {n : Int} (h : Met H f [n, n, 0, 0]) : Dp K H (.ref f) (dataM n) := by
  obtain ⟨rs, e, p⟩ := h
  cases p with
  | cons h1 p => cases p with
    | cons h2 p => cases p with
      | cons h3 p => cases p with
        | cons h4 p => cases p with
          | nil => exact .lst (SqL.of e) (.cons (dp_tup h1) (.cons (dp_tup h2) (.cons (dp_tup h3) (.cons (dp_tup h4) .nil))))
theorem lay_met (n : Int) : (dataM n).canLay0 = true := by
  have hs : PyData.strOk ("names" : Str) = true := by decide +kernel
  simp [PyData.canLay0, PyData.canLayAll0, hs]
theorem shaped_met (n : Int) : SeqAt.shaped (dataM n) = true := by
  have h := lay_met n
  unfold SeqAt.shaped
  rw [h]
  simp [PyData.depth, PyData.depthAll]
theorem eqv_met (n : Int) : PyData.eqv (dataM n) (dataM n) = true := SeqAt.eqv_refl _ (lay_met n)
section
variable {P : Program} {w : World} {K : PySem.W.Frag} {mg : Str → Option Value} {base : Heap}
theorem rd_law6 {fl fB fX fS fI fQ fL C CE : Addr} {dB dX dS dI dQ dL fdl : FuncData} {cdv : Value} {A : Around} {outer : List Env} {s : Shared} {Hb : Hp} {E : XK}
    (gB : Got P w K mg base (L2.CX P w) 8 "begun" ["table", "names"] (spChange K C CE (fun ns _ => ns) placesB) fB dB) (gX : Got P w K mg base (L2.CX P w) 8 "without" ["table", "names"] (spChange K C CE keptN placesW) fX dX)
    (gS : Got P w K mg base CX0 2 "_law_words" ["_law_bounds"] (spWords K) fS dS) (GT : FnOk P w K mg base CX0 4 fI dI ["self", "names", "bounds"] (spTInit K C)) (MT : L2.Mk K C fI) (bT : Binds K dI ["self", "names", "bounds"] []) (mC : mg "Table" = some (.ref C))
    (GQ : FnOk P w K mg base CX0 1 fQ dQ ["self", "other"] (spEq (RTab K C))) (bQ : Binds K dQ ["self", "other"] []) (hs : PySem.W.findIn K (.ref C) "__eq__" = some (some (.ref fQ))) (hf : PySem.W.isFn K (.ref fQ) = true) (hn : PySem.W.findIn K (.ref C) "__ne__" = some (some (.builtin "object.__ne__"))) (hm : PySem.W.mroIn K C (.type "object") = some true)
    (GL : FnOk P w K mg base CX0 1 fL dL ["self"] (spTLen K C)) (bL : Binds K dL ["self"] []) (hsL : PySem.W.findIn K (.ref C) "__len__" = some (some (.ref fL))) (hfL : PySem.W.isFn K (.ref fL) = true)
    (ml : mg "len" = none) {T : List (Addr × Str)} (hr : Room 12 (A.deeper (PyProof.Rows.envOfC "law" (defScope sLaw) s.heap.objs.size fl cdv))) :
    ∃ t, PSs (cxOf CX0 P w K mg base nLaw "law" (defScope sLaw) fl cdv A outer s Hb E).nox (lawFor.drop 15) t ∧
      ∀ (D : Ends) (H : Hp) (a : Addr) (zs : List Int) (k : Nat) (σ : L2.St), At5 K C T zs a k σ H → (∀ σ' H', At5 K C T zs a k σ' H' → D.nx σ' H') → t D σ H := by
  have hu64 := hr.units
  refine ⟨_, pss_cons (ps_if (pt_cmpR (op_neD hu64) (pv 13) (pe_op op_cat (pe_op op_rep (pe_lst (pa_cons (pe_tup (pa_cons pe_str (pa_cons (pe_callB call_len_seq rfl ml PySem.boot_len (pa_cons (pv 7) pa_nil)) pa_nil))) pa_nil)) pe_int) (pe_op op_rep (pe_lst (pa_cons (pe_tup (pa_cons pe_str (pa_cons pe_int pa_nil))) pa_nil)) pe_int)) (nomark _)) (pss_one (ps_ret pe_bl)) pss_nil)
    (pss_one (ps_if (PW.pt (pw_and (pt_cmpR op_notN (pv 6) pe_non (nomark _)) (pw_and1 (PW.pt (pw_or
        (pt_cmpR (op_neT GQ (hr.mono (by decide)) hs hf hn hm bQ pass0) (pe_call gB.G (hr.mono (by decide)) rfl gB.m gB.k gB.b .nil passNo (pa_cons (pv 5) (pa_cons (pe_lst pa_nil) pa_nil))) (pe_make MT GT (hr.mono (by decide)) rfl mC bT .nil pass0 (pa_cons (pv 3) (pa_cons (pe_call gS.G (hr.mono (by decide)) rfl gS.m gS.k gS.b .nil pass0 (pa_cons (pv 6) pa_nil)) pa_nil))) (nomark _))
        (pw_or1 (pt_cmpR op_ne (pe_callB (call_lenTab GL (hr.mono (by decide)) hsL hfL bL pass0) rfl ml PySem.boot_len (pa_cons (pe_call gX.G (hr.mono (by decide)) rfl gX.m gX.k gX.b .nil passNo (pa_cons (pv 5) (pa_cons (pv 3) pa_nil))) pa_nil)) pe_int (nomark _)))))))) (pss_one (ps_ret pe_bl)) pss_nil)), ?_⟩
  rintro D H a zs k σ ⟨p, l, d, t, sm, h, f, v, x9, x10, o, wr, ns, cs, m, u14, rfl, core, met⟩ q
  have l4 : cs.length ≤ 4 := Nat.le_trans (nodup_le core.nd core.sub) core.four
  have hd := core.d
  refine ⟨_, rfl, _, rfl, sm, _, rfl, .inl (SqL.of core.hsm), (by show 2 ≤ sizeLine; decide), fun t1 ht1 => ⟨(by show 1 ≤ sizeLine; decide), fun l1 hl1 => ?_⟩⟩
  have s1 := (same_new ht1 (.tup [V.str "names", V.int (cs.map V.str).length])).trans (same_new hl1 (.lst [V.ref t1]))
  refine ⟨l1, 2, _, rfl, rfl, upd_same, by decide, by decide, (by show 2 ≤ sizeLine; decide), fun p1 hp1 => ?_⟩
  have s2 := s1.trans (same_new hp1 (.lst (List.replicate (2 : Int).toNat [V.ref t1]).flatten))
  have f1 := same_new hp1 (.lst (List.replicate (2 : Int).toNat [V.ref t1]).flatten) _ _ (same_new hl1 (.lst [V.ref t1]) _ _ (upd_same (H := H) (a := t1) (o := .tup [V.str "names", V.int (cs.map V.str).length])))
  have f2 := upd_same (H := (upd (upd H t1 (.tup [V.str "names", V.int (cs.map V.str).length])) l1 (.lst [V.ref t1]))) (a := p1) (o := .lst (List.replicate (2 : Int).toNat [V.ref t1]).flatten)
  have hln : ((cs.map V.str).length : Int) = ((cs.length : Nat) : Int) := by rw [List.length_map]
  generalize upd (upd (upd H t1 (.tup [V.str "names", V.int (cs.map V.str).length])) l1 (.lst [V.ref t1])) p1 (.lst (List.replicate (2 : Int).toNat [V.ref t1]).flatten) = H2 at s2 f1 f2
  refine ⟨(by show 2 ≤ sizeLine; decide), fun t2 ht2 => ⟨(by show 1 ≤ sizeLine; decide), fun l2 hl2 => ?_⟩⟩
  refine ⟨l2, 2, _, rfl, rfl, upd_same, by decide, by decide, (by show 2 ≤ sizeLine; decide), fun p2 hp2 => ?_⟩
  have s3 := ((same_new ht2 (.tup [V.str "names", V.int 0])).trans (same_new hl2 (.lst [V.ref t2]))).trans (same_new hp2 (.lst (List.replicate (2 : Int).toNat [V.ref t2]).flatten))
  have g0 : upd (upd H2 t2 (.tup [V.str "names", V.int 0])) l2 (.lst [V.ref t2]) t2 = some (.tup [V.str "names", V.int 0]) := same_new hl2 _ _ _ upd_same
  have g1 : upd (upd (upd H2 t2 (.tup [V.str "names", V.int 0])) l2 (.lst [V.ref t2])) p2 (.lst (List.replicate (2 : Int).toNat [V.ref t2]).flatten) t2 = some (.tup [V.str "names", V.int 0]) := same_new hp2 _ _ _ g0
  clear g0
  have g2 := upd_same (H := (upd (upd H2 t2 (.tup [V.str "names", V.int 0])) l2 (.lst [V.ref t2]))) (a := p2) (o := .lst (List.replicate (2 : Int).toNat [V.ref t2]).flatten)
  generalize upd (upd (upd H2 t2 (.tup [V.str "names", V.int 0])) l2 (.lst [V.ref t2])) p2 (.lst (List.replicate (2 : Int).toNat [V.ref t2]).flatten) = H3 at s3 g1 g2
  refine ⟨p1, p2, _, _, rfl, rfl, s3 _ _ f2, g2, (by show 4 ≤ sizeLine; decide), fun p3 hp3 => ?_⟩
  have s4 := same_new hp3 (.lst ((List.replicate (2 : Int).toNat [V.ref t1]).flatten ++ (List.replicate (2 : Int).toNat [V.ref t2]).flatten))
  have s04 := (s2.trans s3).trans s4
  have f1' := s4 _ _ (s3 _ _ f1)
  rw [hln] at f1'
  have g1' := s4 _ _ g1
  refine ⟨dataM (cs.length : Nat), dataM (cs.length : Nat), dp_met (met.same s04), .lst (SqL.of upd_same) (.cons (dp_tup f1') (.cons (dp_tup f1') (.cons (dp_tup g1') (.cons (dp_tup g1') .nil)))), shaped_met _, shaped_met _, _, rfl, ?_⟩
  rw [eqv_met]
  refine iteF ?_
  have c4 := core.same s04
  have m4 := met.same s04
  clear f1' g1' g1 g2 f1 f2 s04 s4 s3 s2 s1 ht1 hl1 hp1 ht2 hl2 hp2 hp3 core met
  generalize upd H3 p3 _ = H4 at c4 m4
  refine ⟨_, rfl, rfl, _, rfl, ?_⟩
  rcases c4.ways with ⟨hb, rfl⟩ | ⟨hb, r, rfl, hD⟩
  · exact iteF (iteF (q _ _ ⟨p, l, d, t, sm, h, f, .non, x9, x10, o, wr, ns, cs, m, u14, rfl, c4, m4⟩))
  refine iteT ?_
  have few := wsOf_few (m := m) hd.few
  have wn : ((wsOf ns m).map (·.1)).Nodup := waysL_nd (prsOf_nd hd.nd hd.nd)
  refine ⟨_, rfl, Nat.zero_le _, fun l0 hl0 => ?_⟩
  have c5 := c4.same (same_new hl0 (.lst []))
  refine ⟨t, .ref l0, ns, tabM ns m, rfl, c5.tab, .inl ⟨l0, [], rfl, ⟨.inl (SqL.of upd_same), List.nodup_nil, fun _ z => absurd z List.not_mem_nil⟩, fun uu H6 s6 told => ?_⟩⟩
  have s06 := (same_new hl0 (.lst [])).trans s6
  refine ⟨_, rfl, _, rfl, r, wsOf ns m, rfl, hD.sameB s06, wn, by omega, fun r2 H7 hr7 s7 hR7 => ?_⟩
  have s07 := s06.trans s7
  intro x dx hx hdx hne
  have sM := own_same (C := C) hx hdx
  have M7 : Makes K H7 l r2 ns (optM (wsOf ns m)) := makes_of hd (List.Sublist.refl _) (.inl (SqL.of (s07 _ _ c4.hl))) hR7 (fun e he => prs_spots (waysL_key he).1) (by omega)
  refine ⟨H7, x, dx, l, r2, ns, _, rfl, sM, hx, upd_same, M7.same sM, fun H8 s8 T8 => ⟨rfl, ?_⟩⟩
  have s08 := s07.trans s8
  have alike : (uu = .non ∧ (V.ref x) = .non) ∨ DIns C (RTab K C) uu (.ref x) H8 := by
    rcases told.begun hd c4.g List.not_mem_nil with ⟨b, _⟩ | ⟨_, t9, rfl, hT9⟩
    · exact absurd b hb
    · rw [dueB_nil] at hT9
      exact .inr (dins_same (hT9.same (s7.trans s8)) T8)
  refine ne_tab alike fun H9 s9 => ⟨_, rfl, iteF ?_⟩
  have s09 := s08.trans s9
  have c9 := c4.same s09
  refine ⟨_, rfl, _, rfl, t, .ref l, ns, tabM ns m, rfl, c9.tab, .inl ⟨l, ns, rfl, ⟨.inl (SqL.of c9.hl), (List.nodup_cons.mp hd.nd).2, fun _ z => z⟩, fun uu2 H10 s10 told2 => ?_⟩⟩
  rcases told2.without hd c4.g (List.nodup_cons.mp hd.nd).1 with ⟨b, _⟩ | ⟨_, t10, rfl, hT10⟩
  · exact absurd b hb
  refine ⟨t10, _, _, rfl, hT10, rfl, _, rfl, ?_⟩
  rw [keptN_all]
  refine iteF ?_
  have s010 := s09.trans s10
  exact q _ _ ⟨p, l, d, t, sm, h, f, .ref r, x9, x10, o, wr, ns, cs, m, u14, rfl, c4.same s010, m4.same s010⟩
end
end Rw
set_option Elab.async false
set_option linter.all false
set_option maxRecDepth 100000
set_option maxHeartbeats 4000000
namespace Rw
open PySem L2
/-! ### the law -/
section
variable {P : Program} {w : World} {K : PySem.W.Frag} {mg : Str → Option Value} {base : Heap}
def spLaw (K : PySem.W.Frag) (Pt : Addr) : Sp := fun vs H Q _ => ∃ (a : Addr) (zs : List Int), vs = [.ref a] ∧ SqL K H a (zs.map V.int) ∧ zs.length ≤ 63 ∧ LamX.Tabs [(Pt, "law.<locals>.<lambda>")] H ∧ ∀ H', Q (.bl true) H'
theorem ok_law {fl fC fP fN fO fD fT fW fM fK fS fH fR fI fB fX fQ fL fMet C CE c Pt : Addr} {dC dP dN dO dD dT dW dM dK dS dH dR dI dB dX dQ dL dMet fdl : FuncData}
    (F : Fun K "law" "law" sLaw fl fdl) (hcode : fdl.code = .ref c)
    (gC : Got P w K mg base CX0 1 "_law_cell" ["_law_script", "_law_k"] (spCell K) fC dC) (gP : Got P w K mg base CX0 1 "_law_pool" ["_law_cell_here"] spPool fP dP) (gN : Got P w K mg base CX0 3 "_law_names" ["_law_pool_here", "_law_many"] spNames fN dN)
    (gO : Got P w K mg base CX0 2 "_law_one" ["_law_pool_here", "_law_things"] (spOne K) fO dO) (gD : Got P w K mg base CX0 3 "_law_drawn" ["_law_pool_here", "_law_names_here"] (spDrawn K) fD dD) (gT : Got P w K mg base CX0 6 "_law_table" nTable (spTable K C) fT dT)
    (gW : Got P w K mg base CX0 8 "_law_ways" ["_law_bounds", "_law_ones"] (spWays2 K) fW dW) (gM : Got P w K mg base CX0 2 "_law_mixed" ["_law_pool_here", "_law_things"] (spMixed K) fM dM) (gK : Got P w K mg base CX0 1 "_law_take" ["_law_pool_here", "_law_many"] spTake fK dK)
    (gS : Got P w K mg base CX0 2 "_law_words" ["_law_bounds"] (spWords K) fS dS) (gH : Got P w K mg base CX0 2 "_law_at_nought" ["_law_ways_here", "_law_names_here", "_law_some"] (spNought K) fH dH) (gR : Got P w K mg base CX0 1 "_law_rest" ["_law_ways_here", "_law_some"] (spRest K) fR dR)
    (GT : FnOk P w K mg base CX0 4 fI dI ["self", "names", "bounds"] (spTInit K C)) (MT : L2.Mk K C fI) (bT : Binds K dI ["self", "names", "bounds"] []) (mC : mg "Table" = some (.ref C))
    (gB : Got P w K mg base (L2.CX P w) 8 "begun" ["table", "names"] (spChange K C CE (fun ns _ => ns) placesB) fB dB) (gX : Got P w K mg base (L2.CX P w) 8 "without" ["table", "names"] (spChange K C CE keptN placesW) fX dX)
    (GQ : FnOk P w K mg base CX0 1 fQ dQ ["self", "other"] (spEq (RTab K C))) (bQ : Binds K dQ ["self", "other"] []) (hs : PySem.W.findIn K (.ref C) "__eq__" = some (some (.ref fQ))) (hf : PySem.W.isFn K (.ref fQ) = true) (hn : PySem.W.findIn K (.ref C) "__ne__" = some (some (.builtin "object.__ne__"))) (hm : PySem.W.mroIn K C (.type "object") = some true)
    (GL : FnOk P w K mg base CX0 1 fL dL ["self"] (spTLen K C)) (bL : Binds K dL ["self"] []) (hsL : PySem.W.findIn K (.ref C) "__len__" = some (some (.ref fL))) (hfL : PySem.W.isFn K (.ref fL) = true)
    (FM : Fun K "_law_met" "_law_met" sMet fMet dMet) (bM : Binds K dMet ["_law_ask"] []) (mM : mg "_law_met" = some (.ref fMet)) (TB : LamX.TabB base mg c Pt) (mE : mg "BadNames" = some (.ref CE)) (T : XfC K CE) (hno : PySem.W.findIn K (.ref CE) "index" = some none) (hx1 : PySem.W.exmOne K (.ref CE) (.ref CE) = some true)
    (ml : mg "len" = none) (mk : mg "list" = none) (mt : mg "tuple" = none) (mr : mg "range" = none) : FnOk P w K mg base CX0 13 fl fdl ["_law_script"] (spLaw K Pt) := by
  obtain ⟨oc, od, kV, doc, pm, an, cdv, ct, osl, rfl, lk, hcg⟩ := F.ex
  have hcode : cdv = .ref c := hcode
  subst hcode
  refine fn_of (N := nLaw) lk hcg scLaw (fun vs H Q E h => ?_) fun A outer s H vs Q E hr h => ?_
  · obtain ⟨a, zs, rfl, _⟩ := h
    rfl
  obtain ⟨a, zs, rfl, hS, hl, hT, q⟩ := h
  obtain ⟨t6, p6, r6⟩ := rd_law6 (fl := fl) (fdl := dC) (cdv := .ref c) (A := A) (outer := outer) (s := s) (Hb := H) (E := E) gB gX gS GT MT bT mC GQ bQ hs hf hn hm GL bL hsL hfL ml (T := [(Pt, "law.<locals>.<lambda>")]) hr
  obtain ⟨t5, p5, r5⟩ := rd_law5 (fdl := dC) FM bM mM TB mE T hno hx1 gB gX hr p6
  obtain ⟨t4, p4, r4⟩ := rd_law4 (fdl := dC) (fX := fX) (dX := dX) FM bM mM TB mE T hno hx1 gB hr p5
  obtain ⟨t3, p3, r3⟩ := rd_law3 (fdl := dC) gO gB gX GQ bQ hs hf hn hm hr p4
  obtain ⟨t2, p2, r2⟩ := rd_law2 (fdl := dC) gS gH gR GT MT bT mC hr p3
  obtain ⟨t1, p1, r1⟩ := rd_law1 (fdl := dC) gC gP gN gO gD gT gW gM gK ml mk mt hr p2
  refine ⟨_, PSs.nox (pss_cons (ps_for PassesOwn.never rfl (pi_range1 rfl mr (pa_cons pe_int pa_nil)) (pg_name (i := 1) scLaw.nd rfl (Or.inl rfl)) p1) (pss_one (ps_ret pe_bl))), ?_⟩
  refine ⟨5, rfl, by decide, by decide, for_range (n := 5) (fun _ σ H' => ∃ u1 u2 u3 u4 u5 u6 u7 u8 u9 u10 u11 u12 u13 u14 : Option V, σ = [some (.ref a), u1, u2, u3, u4, u5, u6, u7, u8, u9, u10, u11, u12, u13, u14] ∧ SqL K H' a (zs.map V.int) ∧ LamX.Tabs [(Pt, "law.<locals>.<lambda>")] H') ?_ ?_ ?_⟩
  · exact ⟨none, none, none, none, none, none, none, none, none, none, none, none, none, none, rfl, hS, hT⟩
  · rintro i σ H1 hi ⟨u1, u2, u3, u4, u5, u6, u7, u8, u9, u10, u11, u12, u13, u14, rfl, hS1, hT1⟩
    rw [Int.zero_add]
    refine r1 _ H1 a i zs u2 u3 u4 u5 u6 u7 u8 u9 u10 u11 u12 u13 u14 hS1 hl fun σ2 H2 h2 => ?_
    refine r2 _ H1 H2 a i σ2 h2 fun σ3 H3 h3 => ?_
    refine r3 _ H1 H3 a i σ3 h3 fun σ4 H4 h4 => ?_
    refine r4 _ H1 H4 a zs i σ4 hS1 hT1 h4 fun σ5 H5 h5 => ?_
    refine r5 _ H5 a zs i σ5 h5 fun σ6 H6 h6 => ?_
    refine r6 _ H6 a zs i σ6 h6 fun σ7 H7 h7 => ?_
    obtain ⟨p, l, d, t, sm, h, f, v, x9, x10, o, wr, ns, cs, m, u14, rfl, core, _⟩ := h7
    exact ⟨_, _, _, _, _, _, _, _, _, _, _, _, _, _, rfl, core.scr, core.tabs⟩
  · rintro σ H1 ⟨u1, u2, u3, u4, u5, u6, u7, u8, u9, u10, u11, u12, u13, u14, rfl, _⟩
    exact q H1
end
end Rw
set_option Elab.async false
set_option linter.all false
set_option maxRecDepth 100000
set_option maxHeartbeats 0
namespace Rw
open PySem L2
/-! ### the head: facts by names -/
theorem funOf {K : PySem.W.Frag} {x q : Str} {st : Stmt} {f : Addr} {fd : FuncData} (F : FunD K x q (defArgs st) (defBody st) (defScope st) [] [] f fd) : Fun K x q st f fd := by
  obtain ⟨oc, od, dV, kV, doc, pm, an, cdv, ct, osl, rfl, lk, hcd, hD, hK⟩ := F.ex
  rcases hD with ⟨_, rfl⟩ | ⟨e, _⟩
  · exact ⟨⟨oc, od, kV, doc, pm, an, cdv, ct, osl, rfl, lk, hcd⟩, F.kp⟩
  · exact absurd rfl e
def mkD (x : Str) (st : Stmt) : He.DefD := ⟨(x, none), x, x, defArgs st, defBody st, defScope st, [], []⟩
def mkM (c x q : Str) (st : Stmt) : He.DefD := ⟨(c, some x), x, q, defArgs st, defBody st, defScope st, [], []⟩
def fnP : List He.DefD := [mkD "is_integer" sIsInteger, mkD "is_list" sIsList, mkD "is_name" sIsName, mkD "bad_name_at" sBadNameAt, mkD "bad_choice_at" sBadChoiceAt, mkD "is_upper" sIsUpper, mkD "code_of" sCodeOf, mkD "upper_of" sUpperOf, mkD "tighter_code" sTighter, mkD "code_sum" sCodeSum,
  mkD "is_spot" sIsSpot, mkD "is_spot_pair" sIsSpotPair, mkD "ordered_bounds" sOrdered, mkM "Table" "__init__" "Table.__init__" sTInit, mkM "Table" "names" "Table.names" sTNames, mkM "Table" "bounds" "Table.bounds" sTBounds, mkM "Table" "__len__" "Table.__len__" sTLen, mkM "Table" "__eq__" "Table.__eq__" sTEq,
  mkD "grid_of" sGridOf, mkD "table_of" sTableOf, mkD "shut" sShut, mkD "closed_grid" sClosedGrid, mkD "replaced" sReplaced, mkM "BadNames" "__init__" "BadNames.__init__" sBNInit, mkD "check_choice" sCheck, mkD "begun" sBegun, mkD "without" sWithout]
def fnL : List He.DefD := [mkD "_law_cell" sCell, mkD "_law_pool" sPool, mkD "_law_take" sTake, mkD "_law_mixed" sMixed, mkD "_law_names" sNames, mkD "_law_one" sOne, mkD "_law_word" sWord, mkD "_law_words" sWords, mkD "_law_pairs" sPairs, mkD "_law_drawn" sDrawn, mkD "_law_more" sMore, mkD "_law_tight" sTight, mkD "_law_bars" sBars,
  mkD "_law_way" sWay, mkD "_law_ways" sWays, mkD "_law_handed" sHanded, mkD "_law_table" sTable, mkD "_law_met" sMet, mkD "_law_rest" sRest, mkD "_law_at_nought" sNought, mkD "law" sLaw]
def fnA : List He.DefD := fnP ++ fnL
def gloN : List Str := ["is_integer", "is_list", "is_name", "bad_name_at", "bad_choice_at", "is_upper", "code_of", "upper_of", "tighter_code", "code_sum", "is_spot", "is_spot_pair", "ordered_bounds", "Table", "grid_of", "table_of", "shut", "closed_grid", "replaced", "BadNames", "check_choice", "begun", "without"]
def gloL : List Str := ["_law_cell", "_law_pool", "_law_take", "_law_mixed", "_law_names", "_law_one", "_law_word", "_law_words", "_law_pairs", "_law_drawn", "_law_more", "_law_tight", "_law_bars", "_law_way", "_law_ways", "_law_handed", "_law_table", "_law_met", "_law_rest", "_law_at_nought", "law"]
def freeN : List Str := ["len", "sum", "int", "dict", "list", "tuple", "isinstance", "str", "bool", "all", "any", "enumerate", "range", "max"]
def faA : List He.Fa := (gloN.map He.Fa.glo ++ gloL.map He.Fa.glo) ++ (freeN.map He.Fa.free ++ [.int "LONGEST_NAME" 8, .int "UPTO_ZERO" 1, .str "LETTERS" letters, .cls "Table", .noat "Table" "_names", .noat "Table" "_bounds", .meth "Table" "names", .meth "Table" "bounds", .meth "Table" "__len__", .meth "Table" "__eq__", .mkr "Table", .noat "BadNames" "index", .exm "BadNames" "BadNames" true])
/-- an own error class with its own __init__ -/
def oexB (K : PySem.W.Frag) (C : Addr) : Bool := (match K.lookup C with
    | some ⟨.type c, _, .cls cd, sl⟩ => (match cd.mro, sl.toList with
      | .ref C' :: bm, [_, _, _, _, some (.builtin n), _] => decide (c = "type") && (decide (C' = C) && (decide (n = "ValueError.__new__") && (!cd.hasDel && (cd.hasDict && PySem.HandSPX.refsVE bm))))
      | _, _ => false)
    | _ => false) && (decide (PySem.W.findIn K (.ref C) "__setattr__" = some (some (.builtin "object.__setattr__"))) && (decide (PySem.W.subIn K (.ref C) (.type "BaseException") = some true) && (decide (PySem.W.typeIn K (.ref C) = some (.type "type")) && PySem.W.keepIn K (.ref C))))
theorem oexB_ok {K : PySem.W.Frag} {C : Addr} (h : oexB K C = true) : OexC K C := by
  obtain ⟨h1, h⟩ := He.ba h
  obtain ⟨h2, h⟩ := He.ba h
  obtain ⟨h3, h⟩ := He.ba h
  obtain ⟨h4, h5⟩ := He.ba h
  refine ⟨?_, of_decide_eq_true h2, of_decide_eq_true h3, of_decide_eq_true h4, h5⟩
  split at h1
  · rename_i c od cd sl lk
    split at h1
    · rename_i C' bm k0 k1 k2 k3 n k5 e1 e2
      obtain ⟨g1, h1⟩ := He.ba h1
      obtain ⟨g2, h1⟩ := He.ba h1
      obtain ⟨g3, h1⟩ := He.ba h1
      obtain ⟨g4, h1⟩ := He.ba h1
      obtain ⟨g5, g6⟩ := He.ba h1
      obtain ⟨nm, bs, mro, ns, q, hd, sn, sub, ab, col, hdel⟩ := cd
      have e1 : mro = .ref C' :: bm := e1
      have g4 : hdel = false := by
        have z : (!hdel) = true := g4
        cases hdel with
        | false => rfl
        | true => cases z
      have g5 : hd = true := g5
      have e3 : sl = #[k0, k1, k2, k3, some (.builtin n), k5] := by
        rw [← Array.toList_inj, e2]
      refine ⟨nm, q, ns, bs, bm, sn, sub, ab, col, od, k0, k1, k2, k3, k5, ?_, g6⟩
      rw [lk, e1, e3, g4, g5, of_decide_eq_true g1, of_decide_eq_true g2, of_decide_eq_true g3]
    · cases h1
  · cases h1
/-- what more is asked of the two classes -/
def exA (K : PySem.W.Frag) : Bool := (oexB K (He.ga K "BadNames") && (xfB K (He.ga K "BadNames") && (He.eqO (PySem.W.findIn K (.ref (He.ga K "BadNames")) "__init__") (some (some (.ref (He.ma K (He.ga K "BadNames") "__init__")))) && decide (PySem.W.typeIn K (.ref (He.ma K (He.ga K "BadNames") "__init__")) = some (.type "function"))))) &&
  (He.eqO (PySem.W.findIn K (.ref (He.ga K "Table")) "__class__") (some (some (.builtin "object.__class__"))) && (He.eqO (PySem.W.specialIn K (.builtin "object.__class__") "__get__") (some (some (.builtin "getset_descriptor.__get__"))) && (decide (PySem.W.takesIn K (.builtin "object.__class__") = some true) && (decide (PySem.W.mroIn K (He.ga K "Table") (.type "object") = some true) &&
    (decide (PySem.W.kitOne K (.ref (He.ga K "Table")) (.ref (He.ga K "Table")) = some true) && He.eqO (PySem.W.findIn K (.ref (He.ga K "Table")) "__ne__") (some (some (.builtin "object.__ne__"))))))))
abbrev defL : He.Defn := ("law", none)
abbrev R0 : PySem.W.OpenRow := PySem.W.OpenLaw.row PySem.Challenge.rw_rowsintime_k08_whole_begun_and_without
abbrev hkA : PySem.W.Hook := He.hookX 5 faA fnA [] [defL] exA
def obA (s : PySem.W.SharedT) : He.AlX := He.obsX 5 faA fnA [] [defL] exA (HandSHeadRun.getT s)
theorem obA_eq (s : PySem.W.SharedT) : obA s = hkA.obs s.abs := He.obsX_eq (HandSHeadRun.getT_eq s)
def nm1 : List PySem.Str := ["LETTERS", "LONGEST_NAME", "is_integer", "is_list", "is_name", "bad_name_at", "bad_choice_at", "UPTO_ZERO", "is_upper", "code_of", "upper_of", "tighter_code", "code_sum", "ClockError", "BadNames", "BadBound", "NoName", "SameName", "Table", "is_spot", "is_spot_pair", "ordered_bounds", "grid_of", "table_of", "shut", "closed_grid", "begun", "without", "check_choice", "replaced"]
def nm2 : List PySem.Str := ["_law_cell", "_law_pool", "_law_take", "_law_mixed", "_law_names", "_law_one", "_law_word", "_law_words", "_law_pairs", "_law_drawn", "_law_more", "_law_tight", "_law_bars", "_law_way", "_law_ways", "_law_handed", "_law_table", "_law_met", "_law_rest", "_law_at_nought"]
def names0 : List PySem.Str := nm1 ++ nm2
end Rw
set_option Elab.async false
set_option linter.all false
set_option maxRecDepth 100000
set_option maxHeartbeats 0
namespace Rw
open PySem PySem.W PySem.Calls PyProof.Rows
theorem run0 (w : World) : HandSHeadRun.RunEq R0 (view R0.prog [57]) hkA obA 20000 names0 w := by
  intro os
  kernel_rfl
end Rw
set_option Elab.async false
set_option linter.all false
set_option maxRecDepth 100000
set_option maxHeartbeats 8000000
namespace Rw
open PySem L2
section
variable {K : PySem.W.Frag} {h : Heap} {mg : Str → Option Value} {w : World}
theorem gloA (X : K.In h) (G : h.Ns mainGlobals mg) (c : He.SaysX faA fnA [] [defL] exA w h K) {x : Str} (i : Nat) (e : faA[i]? = some (.glo x) := by rfl) : mg x = some (.ref (He.ga K x)) := He.glo_ok X G (c.t.d.fact i e)
theorem freeA (X : K.In h) (G : h.Ns mainGlobals mg) (c : He.SaysX faA fnA [] [defL] exA w h K) {x : Str} (i : Nat) (e : faA[i]? = some (.free x) := by rfl) : mg x = none := He.free_ok X G (c.t.d.fact i e)
theorem defA (c : He.SaysX faA fnA [] [defL] exA w h K) {x : Str} {st : Stmt} (i : Nat) (e : fnA[i]? = some (mkD x st) := by rfl) : ∃ fd, Fun K x x st (He.ga K x) fd := by
  obtain ⟨fd, F⟩ := c.t.d.def_ i e
  exact ⟨fd, funOf F⟩
theorem metA (c : He.SaysX faA fnA [] [defL] exA w h K) {C x q : Str} {st : Stmt} (i : Nat) (e : fnA[i]? = some (mkM C x q st) := by rfl) : ∃ fd, Fun K x q st (He.ma K (He.ga K C) x) fd := by
  obtain ⟨fd, F⟩ := c.t.d.def_ i e
  exact ⟨fd, funOf F⟩
theorem facts {P : Program} {fa : Addr} (X : K.In h) (G : h.Ns mainGlobals mg) (hfa : mg ("law" : Str) = some (.ref fa)) (c : He.SaysX faA fnA [] [defL] exA w h K) :
    ∃ (fd : FuncData) (cs : List (Addr × Addr)) (sp : Sp), (∀ p ∈ cs, h.get? p.2 = some { cls := .none, data := .fields #[] }) ∧ (∀ p ∈ cs, K.lookup p.2 = none) ∧ (∀ p ∈ cs, PySem.W.CodeHd h p.1 p.2) ∧ (∀ (s : Shared) (u : Value), BindsTo s fd ⟨[u], []⟩ [("_law_script", u)]) ∧
    (∀ (H : Hp) (a : Addr) (ns : List Int), ns.length ≤ 63 → (∀ z ∈ ns, Builtin.Int.intBits z ≤ 1048576) → (∀ p ∈ cs, H p.2 = some (.tbl #[])) → SqL K H a (ns.map V.int) → sp [.ref a] H (fun v _ => v = .bl true) fun _ _ _ => False) ∧
    ∀ base : Heap, K.In base → base.Ns mainGlobals mg → (∀ p ∈ cs, LamX.TabB base mg p.1 p.2) → FnOk P w K mg base CX0 13 fa fd ["_law_script"] sp := by
  obtain ⟨d_is_integer, F_is_integer⟩ := defA c (x := "is_integer") (st := sIsInteger) 0
  have b_is_integer : Binds K d_is_integer ["thing"] [] := F_is_integer.binds fun _ _ _ _ _ _ us hl => match us, hl with | [_], _ => rfl
  obtain ⟨d_is_list, F_is_list⟩ := defA c (x := "is_list") (st := sIsList) 1
  have b_is_list : Binds K d_is_list ["thing"] [] := F_is_list.binds fun _ _ _ _ _ _ us hl => match us, hl with | [_], _ => rfl
  obtain ⟨d_is_name, F_is_name⟩ := defA c (x := "is_name") (st := sIsName) 2
  have b_is_name : Binds K d_is_name ["thing"] [] := F_is_name.binds fun _ _ _ _ _ _ us hl => match us, hl with | [_], _ => rfl
  obtain ⟨d_bad_name_at, F_bad_name_at⟩ := defA c (x := "bad_name_at") (st := sBadNameAt) 3
  have b_bad_name_at : Binds K d_bad_name_at ["things"] [] := F_bad_name_at.binds fun _ _ _ _ _ _ us hl => match us, hl with | [_], _ => rfl
  obtain ⟨d_bad_choice_at, F_bad_choice_at⟩ := defA c (x := "bad_choice_at") (st := sBadChoiceAt) 4
  have b_bad_choice_at : Binds K d_bad_choice_at ["things", "names"] [] := F_bad_choice_at.binds fun _ _ _ _ _ _ us hl => match us, hl with | [_, _], _ => rfl
  obtain ⟨d_is_upper, F_is_upper⟩ := defA c (x := "is_upper") (st := sIsUpper) 5
  have b_is_upper : Binds K d_is_upper ["thing"] [] := F_is_upper.binds fun _ _ _ _ _ _ us hl => match us, hl with | [_], _ => rfl
  obtain ⟨d_code_of, F_code_of⟩ := defA c (x := "code_of") (st := sCodeOf) 6
  have b_code_of : Binds K d_code_of ["bound"] [] := F_code_of.binds fun _ _ _ _ _ _ us hl => match us, hl with | [_], _ => rfl
  obtain ⟨d_upper_of, F_upper_of⟩ := defA c (x := "upper_of") (st := sUpperOf) 7
  have b_upper_of : Binds K d_upper_of ["code"] [] := F_upper_of.binds fun _ _ _ _ _ _ us hl => match us, hl with | [_], _ => rfl
  obtain ⟨d_tighter_code, F_tighter_code⟩ := defA c (x := "tighter_code") (st := sTighter) 8
  have b_tighter_code : Binds K d_tighter_code ["one", "other"] [] := F_tighter_code.binds fun _ _ _ _ _ _ us hl => match us, hl with | [_, _], _ => rfl
  obtain ⟨d_code_sum, F_code_sum⟩ := defA c (x := "code_sum") (st := sCodeSum) 9
  have b_code_sum : Binds K d_code_sum ["one", "other"] [] := F_code_sum.binds fun _ _ _ _ _ _ us hl => match us, hl with | [_, _], _ => rfl
  obtain ⟨d_is_spot, F_is_spot⟩ := defA c (x := "is_spot") (st := sIsSpot) 10
  have b_is_spot : Binds K d_is_spot ["names", "thing"] [] := F_is_spot.binds fun _ _ _ _ _ _ us hl => match us, hl with | [_, _], _ => rfl
  obtain ⟨d_is_spot_pair, F_is_spot_pair⟩ := defA c (x := "is_spot_pair") (st := sIsSpotPair) 11
  have b_is_spot_pair : Binds K d_is_spot_pair ["names", "thing"] [] := F_is_spot_pair.binds fun _ _ _ _ _ _ us hl => match us, hl with | [_, _], _ => rfl
  obtain ⟨d_ordered_bounds, F_ordered_bounds⟩ := defA c (x := "ordered_bounds") (st := sOrdered) 12
  have b_ordered_bounds : Binds K d_ordered_bounds ["names", "bounds"] [] := F_ordered_bounds.binds fun _ _ _ _ _ _ us hl => match us, hl with | [_, _], _ => rfl
  obtain ⟨d_T__init, F_T__init⟩ := metA c (C := "Table") (x := "__init__") (st := sTInit) 13
  have b_T__init : Binds K d_T__init ["self", "names", "bounds"] [] := F_T__init.binds fun _ _ _ _ _ _ us hl => match us, hl with | [_, _, _], _ => rfl
  obtain ⟨d_Tnames, F_Tnames⟩ := metA c (C := "Table") (x := "names") (st := sTNames) 14
  have b_Tnames : Binds K d_Tnames ["self"] [] := F_Tnames.binds fun _ _ _ _ _ _ us hl => match us, hl with | [_], _ => rfl
  obtain ⟨d_Tbounds, F_Tbounds⟩ := metA c (C := "Table") (x := "bounds") (st := sTBounds) 15
  have b_Tbounds : Binds K d_Tbounds ["self"] [] := F_Tbounds.binds fun _ _ _ _ _ _ us hl => match us, hl with | [_], _ => rfl
  obtain ⟨d_T__len, F_T__len⟩ := metA c (C := "Table") (x := "__len__") (st := sTLen) 16
  have b_T__len : Binds K d_T__len ["self"] [] := F_T__len.binds fun _ _ _ _ _ _ us hl => match us, hl with | [_], _ => rfl
  obtain ⟨d_T__eq, F_T__eq⟩ := metA c (C := "Table") (x := "__eq__") (st := sTEq) 17
  have b_T__eq : Binds K d_T__eq ["self", "other"] [] := F_T__eq.binds fun _ _ _ _ _ _ us hl => match us, hl with | [_, _], _ => rfl
  obtain ⟨d_grid_of, F_grid_of⟩ := defA c (x := "grid_of") (st := sGridOf) 18
  have b_grid_of : Binds K d_grid_of ["table"] [] := F_grid_of.binds fun _ _ _ _ _ _ us hl => match us, hl with | [_], _ => rfl
  obtain ⟨d_table_of, F_table_of⟩ := defA c (x := "table_of") (st := sTableOf) 19
  have b_table_of : Binds K d_table_of ["names", "grid"] [] := F_table_of.binds fun _ _ _ _ _ _ us hl => match us, hl with | [_, _], _ => rfl
  obtain ⟨d_shut, F_shut⟩ := defA c (x := "shut") (st := sShut) 20
  have b_shut : Binds K d_shut ["grid"] [] := F_shut.binds fun _ _ _ _ _ _ us hl => match us, hl with | [_], _ => rfl
  obtain ⟨d_closed_grid, F_closed_grid⟩ := defA c (x := "closed_grid") (st := sClosedGrid) 21
  have b_closed_grid : Binds K d_closed_grid ["table"] [] := F_closed_grid.binds fun _ _ _ _ _ _ us hl => match us, hl with | [_], _ => rfl
  obtain ⟨d_replaced, F_replaced⟩ := defA c (x := "replaced") (st := sReplaced) 22
  have b_replaced : Binds K d_replaced ["table", "names", "places"] [] := F_replaced.binds fun _ _ _ _ _ _ us hl => match us, hl with | [_, _, _], _ => rfl
  obtain ⟨d_B__init, F_B__init⟩ := metA c (C := "BadNames") (x := "__init__") (st := sBNInit) 23
  have b_B__init : Binds K d_B__init ["self", "index"] [] := F_B__init.binds fun _ _ _ _ _ _ us hl => match us, hl with | [_, _], _ => rfl
  obtain ⟨d_check_choice, F_check_choice⟩ := defA c (x := "check_choice") (st := sCheck) 24
  have b_check_choice : Binds K d_check_choice ["table", "names"] [] := F_check_choice.binds fun _ _ _ _ _ _ us hl => match us, hl with | [_, _], _ => rfl
  obtain ⟨d_begun, F_begun⟩ := defA c (x := "begun") (st := sBegun) 25
  have b_begun : Binds K d_begun ["table", "names"] [] := F_begun.binds fun _ _ _ _ _ _ us hl => match us, hl with | [_, _], _ => rfl
  obtain ⟨d_without, F_without⟩ := defA c (x := "without") (st := sWithout) 26
  have b_without : Binds K d_without ["table", "names"] [] := F_without.binds fun _ _ _ _ _ _ us hl => match us, hl with | [_, _], _ => rfl
  obtain ⟨d_l_cell, F_l_cell⟩ := defA c (x := "_law_cell") (st := sCell) 27
  have b_l_cell : Binds K d_l_cell ["_law_script", "_law_k"] [] := F_l_cell.binds fun _ _ _ _ _ _ us hl => match us, hl with | [_, _], _ => rfl
  obtain ⟨d_l_pool, F_l_pool⟩ := defA c (x := "_law_pool") (st := sPool) 28
  have b_l_pool : Binds K d_l_pool ["_law_cell_here"] [] := F_l_pool.binds fun _ _ _ _ _ _ us hl => match us, hl with | [_], _ => rfl
  obtain ⟨d_l_take, F_l_take⟩ := defA c (x := "_law_take") (st := sTake) 29
  have b_l_take : Binds K d_l_take ["_law_pool_here", "_law_many"] [] := F_l_take.binds fun _ _ _ _ _ _ us hl => match us, hl with | [_, _], _ => rfl
  obtain ⟨d_l_mixed, F_l_mixed⟩ := defA c (x := "_law_mixed") (st := sMixed) 30
  have b_l_mixed : Binds K d_l_mixed ["_law_pool_here", "_law_things"] [] := F_l_mixed.binds fun _ _ _ _ _ _ us hl => match us, hl with | [_, _], _ => rfl
  obtain ⟨d_l_names, F_l_names⟩ := defA c (x := "_law_names") (st := sNames) 31
  have b_l_names : Binds K d_l_names ["_law_pool_here", "_law_many"] [] := F_l_names.binds fun _ _ _ _ _ _ us hl => match us, hl with | [_, _], _ => rfl
  obtain ⟨d_l_one, F_l_one⟩ := defA c (x := "_law_one") (st := sOne) 32
  have b_l_one : Binds K d_l_one ["_law_pool_here", "_law_things"] [] := F_l_one.binds fun _ _ _ _ _ _ us hl => match us, hl with | [_, _], _ => rfl
  obtain ⟨d_l_word, F_l_word⟩ := defA c (x := "_law_word") (st := sWord) 33
  have b_l_word : Binds K d_l_word ["_law_bound"] [] := F_l_word.binds fun _ _ _ _ _ _ us hl => match us, hl with | [_], _ => rfl
  obtain ⟨d_l_words, F_l_words⟩ := defA c (x := "_law_words") (st := sWords) 34
  have b_l_words : Binds K d_l_words ["_law_bounds"] [] := F_l_words.binds fun _ _ _ _ _ _ us hl => match us, hl with | [_], _ => rfl
  obtain ⟨d_l_pairs, F_l_pairs⟩ := defA c (x := "_law_pairs") (st := sPairs) 35
  have b_l_pairs : Binds K d_l_pairs ["_law_ones"] [] := F_l_pairs.binds fun _ _ _ _ _ _ us hl => match us, hl with | [_], _ => rfl
  obtain ⟨d_l_drawn, F_l_drawn⟩ := defA c (x := "_law_drawn") (st := sDrawn) 36
  have b_l_drawn : Binds K d_l_drawn ["_law_pool_here", "_law_names_here"] [] := F_l_drawn.binds fun _ _ _ _ _ _ us hl => match us, hl with | [_, _], _ => rfl
  obtain ⟨d_l_more, F_l_more⟩ := defA c (x := "_law_more") (st := sMore) 37
  have b_l_more : Binds K d_l_more ["_law_one_here", "_law_other"] [] := F_l_more.binds fun _ _ _ _ _ _ us hl => match us, hl with | [_, _], _ => rfl
  obtain ⟨d_l_tight, F_l_tight⟩ := defA c (x := "_law_tight") (st := sTight) 38
  have b_l_tight : Binds K d_l_tight ["_law_one_here", "_law_other"] [] := F_l_tight.binds fun _ _ _ _ _ _ us hl => match us, hl with | [_, _], _ => rfl
  obtain ⟨d_l_bars, F_l_bars⟩ := defA c (x := "_law_bars") (st := sBars) 39
  have b_l_bars : Binds K d_l_bars ["_law_bound"] [] := F_l_bars.binds fun _ _ _ _ _ _ us hl => match us, hl with | [_], _ => rfl
  obtain ⟨d_l_way, F_l_way⟩ := defA c (x := "_law_way") (st := sWay) 40
  have b_l_way : Binds K d_l_way ["_law_bounds", "_law_here", "_law_goal", "_law_left"] [] := F_l_way.binds fun _ _ _ _ _ _ us hl => match us, hl with | [_, _, _, _], _ => rfl
  obtain ⟨d_l_ways, F_l_ways⟩ := defA c (x := "_law_ways") (st := sWays) 41
  have b_l_ways : Binds K d_l_ways ["_law_bounds", "_law_ones"] [] := F_l_ways.binds fun _ _ _ _ _ _ us hl => match us, hl with | [_, _], _ => rfl
  obtain ⟨d_l_handed, F_l_handed⟩ := defA c (x := "_law_handed") (st := sHanded) 42
  have b_l_handed : Binds K d_l_handed ["_law_pool_here", "_law_bounds"] [] := F_l_handed.binds fun _ _ _ _ _ _ us hl => match us, hl with | [_, _], _ => rfl
  obtain ⟨d_l_table, F_l_table⟩ := defA c (x := "_law_table") (st := sTable) 43
  have b_l_table : Binds K d_l_table ["_law_pool_here", "_law_names_here", "_law_bounds"] [] := F_l_table.binds fun _ _ _ _ _ _ us hl => match us, hl with | [_, _, _], _ => rfl
  obtain ⟨d_l_met, F_l_met⟩ := defA c (x := "_law_met") (st := sMet) 44
  have b_l_met : Binds K d_l_met ["_law_ask"] [] := F_l_met.binds fun _ _ _ _ _ _ us hl => match us, hl with | [_], _ => rfl
  obtain ⟨d_l_rest, F_l_rest⟩ := defA c (x := "_law_rest") (st := sRest) 45
  have b_l_rest : Binds K d_l_rest ["_law_ways_here", "_law_some"] [] := F_l_rest.binds fun _ _ _ _ _ _ us hl => match us, hl with | [_, _], _ => rfl
  obtain ⟨d_l_at_nought, F_l_at_nought⟩ := defA c (x := "_law_at_nought") (st := sNought) 46
  have b_l_at_nought : Binds K d_l_at_nought ["_law_ways_here", "_law_names_here", "_law_some"] [] := F_l_at_nought.binds fun _ _ _ _ _ _ us hl => match us, hl with | [_, _, _], _ => rfl
  obtain ⟨d_law, F_law⟩ := defA c (x := "law") (st := sLaw) 47
  have b_law : Binds K d_law ["_law_script"] [] := F_law.binds fun _ _ _ _ _ _ us hl => match us, hl with | [_], _ => rfl
  have m_is_integer := gloA X G c (x := "is_integer") 0
  have m_is_list := gloA X G c (x := "is_list") 1
  have m_is_name := gloA X G c (x := "is_name") 2
  have m_bad_name_at := gloA X G c (x := "bad_name_at") 3
  have m_bad_choice_at := gloA X G c (x := "bad_choice_at") 4
  have m_is_upper := gloA X G c (x := "is_upper") 5
  have m_code_of := gloA X G c (x := "code_of") 6
  have m_upper_of := gloA X G c (x := "upper_of") 7
  have m_tighter_code := gloA X G c (x := "tighter_code") 8
  have m_code_sum := gloA X G c (x := "code_sum") 9
  have m_is_spot := gloA X G c (x := "is_spot") 10
  have m_is_spot_pair := gloA X G c (x := "is_spot_pair") 11
  have m_ordered_bounds := gloA X G c (x := "ordered_bounds") 12
  have m_Table := gloA X G c (x := "Table") 13
  have m_grid_of := gloA X G c (x := "grid_of") 14
  have m_table_of := gloA X G c (x := "table_of") 15
  have m_shut := gloA X G c (x := "shut") 16
  have m_closed_grid := gloA X G c (x := "closed_grid") 17
  have m_replaced := gloA X G c (x := "replaced") 18
  have m_BadNames := gloA X G c (x := "BadNames") 19
  have m_check_choice := gloA X G c (x := "check_choice") 20
  have m_begun := gloA X G c (x := "begun") 21
  have m_without := gloA X G c (x := "without") 22
  have m_l_cell := gloA X G c (x := "_law_cell") 23
  have m_l_pool := gloA X G c (x := "_law_pool") 24
  have m_l_take := gloA X G c (x := "_law_take") 25
  have m_l_mixed := gloA X G c (x := "_law_mixed") 26
  have m_l_names := gloA X G c (x := "_law_names") 27
  have m_l_one := gloA X G c (x := "_law_one") 28
  have m_l_word := gloA X G c (x := "_law_word") 29
  have m_l_words := gloA X G c (x := "_law_words") 30
  have m_l_pairs := gloA X G c (x := "_law_pairs") 31
  have m_l_drawn := gloA X G c (x := "_law_drawn") 32
  have m_l_more := gloA X G c (x := "_law_more") 33
  have m_l_tight := gloA X G c (x := "_law_tight") 34
  have m_l_bars := gloA X G c (x := "_law_bars") 35
  have m_l_way := gloA X G c (x := "_law_way") 36
  have m_l_ways := gloA X G c (x := "_law_ways") 37
  have m_l_handed := gloA X G c (x := "_law_handed") 38
  have m_l_table := gloA X G c (x := "_law_table") 39
  have m_l_met := gloA X G c (x := "_law_met") 40
  have m_l_rest := gloA X G c (x := "_law_rest") 41
  have m_l_at_nought := gloA X G c (x := "_law_at_nought") 42
  have m_law := gloA X G c (x := "law") 43
  have f_len := freeA X G c (x := "len") 44
  have f_sum := freeA X G c (x := "sum") 45
  have f_int := freeA X G c (x := "int") 46
  have f_dict := freeA X G c (x := "dict") 47
  have f_list := freeA X G c (x := "list") 48
  have f_tuple := freeA X G c (x := "tuple") 49
  have f_isinstance := freeA X G c (x := "isinstance") 50
  have f_str := freeA X G c (x := "str") 51
  have f_bool := freeA X G c (x := "bool") 52
  have f_all := freeA X G c (x := "all") 53
  have f_any := freeA X G c (x := "any") 54
  have f_enumerate := freeA X G c (x := "enumerate") 55
  have f_range := freeA X G c (x := "range") 56
  have f_max := freeA X G c (x := "max") 57
  obtain ⟨t8, m_longest⟩ := He.int_ok X G (c.t.d.fact 58 (f := .int "LONGEST_NAME" 8))
  obtain ⟨t1, m_upto⟩ := He.int_ok X G (c.t.d.fact 59 (f := .int "UPTO_ZERO" 1))
  obtain ⟨tl, m_letters⟩ := He.str_ok X G (c.t.d.fact 60 (f := .str "LETTERS" letters))
  have T : TxtT K mg (He.ga K "Table") := ⟨He.cls_ok (c.t.d.fact 61 (f := .cls "Table")), He.noat_ok (c.t.d.fact 62 (f := .noat "Table" "_names")), He.noat_ok (c.t.d.fact 63 (f := .noat "Table" "_bounds"))⟩
  have hNm := He.meth_ok (c.t.d.fact 64 (f := .meth "Table" "names"))
  have hBd := He.meth_ok (c.t.d.fact 65 (f := .meth "Table" "bounds"))
  have hLn := He.meth_ok (c.t.d.fact 66 (f := .meth "Table" "__len__"))
  have hEq := He.meth_ok (c.t.d.fact 67 (f := .meth "Table" "__eq__"))
  have MT := He.mkr_ok (c.t.d.fact 68 (f := .mkr "Table"))
  have hno : PySem.W.findIn K (.ref (He.ga K "BadNames")) "index" = some none := He.noat_ok (c.t.d.fact 69 (f := .noat "BadNames" "index"))
  have hx1 := He.exm_ok (c.t.d.fact 70 (f := .exm "BadNames" "BadNames" true))
  obtain ⟨q1, q2⟩ := He.ba c.more
  obtain ⟨q3, q1⟩ := He.ba q1
  obtain ⟨q4, q1⟩ := He.ba q1
  obtain ⟨q5, q6⟩ := He.ba q1
  have OX := oexB_ok q3
  have XF := xfB_ok q4
  have iBN := He.eqO_ok q5
  have tBN := of_decide_eq_true q6
  obtain ⟨r1, q2⟩ := He.ba q2
  obtain ⟨r2, q2⟩ := He.ba q2
  obtain ⟨r3, q2⟩ := He.ba q2
  obtain ⟨r4, q2⟩ := He.ba q2
  obtain ⟨r5, r6⟩ := He.ba q2
  have hm := of_decide_eq_true r4
  have J : IsiT K (He.ga K "Table") := ⟨He.eqO_ok r1, He.eqO_ok r2, of_decide_eq_true r3, hm, of_decide_eq_true r5⟩
  have hne := He.eqO_ok r6
  have ER : ErrT K mg (He.ga K "BadNames") (He.ma K (He.ga K "BadNames") "__init__") := ⟨OX, hno, iBN, tBN, m_BadNames⟩
  have efa := hfa.symm.trans m_law
  cases efa
  obtain ⟨oc, od, kV, doc, pm, an, cdv, ct, osl, efd, lk, hcg⟩ := F_law.ex
  obtain ⟨cc, ecc⟩ := He.codeIn_ref hcg
  have hcode : d_law.code = .ref cc := by rw [efd]; exact ecc
  have hcc : He.codeOf K defL = cc := He.codeOf_eq (p := defL) lk hcode
  refine ⟨d_law, [He.cT K defL], spLaw K (He.cT K defL).2, ?_, ?_, ?_, ?_, ?_, ?_⟩
  · intro p hp
    cases List.mem_singleton.mp hp
    exact c.empty _ List.mem_cons_self
  · intro p hp
    cases List.mem_singleton.mp hp
    exact c.out _ List.mem_cons_self
  · intro p hp
    cases List.mem_singleton.mp hp
    exact PySem.W.codeHd_of_K X (c.hd _ List.mem_cons_self)
  · intro s u
    rw [efd]
    exact .of_eq rfl
  · intro H a ns hl _ hT hS
    exact ⟨a, ns, rfl, hS, hl, fun p hp => by
      cases List.mem_singleton.mp hp
      exact LamX.TabS.nil (hT _ (List.mem_singleton.mpr rfl)), fun _ => rfl⟩
  intro base KX GX TB
  have TB1 := TB _ (List.mem_singleton.mpr rfl)
  have ec1 : (He.cT K defL).1 = cc := hcc
  rw [ec1] at TB1
  -- the program
  have G_int : FnOk P w K mg base CX0 1 _ _ _ _ := ok_is_integer F_is_integer f_isinstance f_int f_bool
  have G_list : FnOk P w K mg base CX0 1 _ _ _ _ := ok_is_list F_is_list f_isinstance f_list f_tuple
  have G_name : FnOk P w K mg base CX0 1 _ _ _ _ := ok_is_name F_is_name f_isinstance f_str f_len f_all m_longest m_letters
  have G_bna : FnOk P w K mg base CX0 2 _ _ _ _ := ok_bad_name_at F_bad_name_at G_list G_name b_is_list b_is_name F_is_list.kp F_is_name.kp m_is_list m_is_name f_enumerate
  have G_bca : FnOk P w K mg base CX0 2 _ _ _ _ := ok_bad_choice_at F_bad_choice_at G_list b_is_list F_is_list.kp m_is_list f_enumerate f_isinstance f_str
  have G_upp : FnOk P w K mg base CX0 2 _ _ _ _ := ok_is_upper F_is_upper G_list G_int b_is_list b_is_integer F_is_list.kp F_is_integer.kp m_is_list m_is_integer f_len
  have G_cod : FnOk P w K mg base CX0 1 _ _ _ _ := ok_code_of F_code_of
  have G_uof : FnOk P w K mg base CX0 1 _ _ _ _ := ok_upper_of F_upper_of
  have G_tig : FnOk P w K mg base CX0 1 _ _ _ _ := ok_tighter F_tighter_code
  have G_sum : FnOk P w K mg base CX0 1 _ _ _ _ := ok_code_sum F_code_sum
  have G_spo : FnOk P w K mg base CX0 1 _ _ _ _ := ok_is_spot F_is_spot f_isinstance f_str
  have G_spp : FnOk P w K mg base CX0 2 _ _ _ _ := ok_is_spot_pair F_is_spot_pair G_spo b_is_spot F_is_spot.kp m_is_spot f_isinstance f_tuple f_len
  have G_ord : FnOk P w K mg base CX0 3 _ _ _ _ := ok_ordered F_ordered_bounds G_spp G_upp b_is_spot_pair b_is_upper F_is_spot_pair.kp F_is_upper.kp m_is_spot_pair m_is_upper f_isinstance f_dict f_tuple
  have G_ini : FnOk P w K mg base CX0 4 _ _ _ _ := ok_tinit F_T__init T G_bna G_ord b_bad_name_at b_ordered_bounds F_bad_name_at.kp F_ordered_bounds.kp m_bad_name_at m_ordered_bounds f_list
  have G_tna : FnOk P w K mg base CX0 1 _ _ _ _ := ok_tnames F_Tnames T f_list
  have G_tbo : FnOk P w K mg base CX0 1 _ _ _ _ := ok_tbounds F_Tbounds T
  have G_tle : FnOk P w K mg base CX0 1 _ _ _ _ := ok_tlen F_T__len T f_len
  have G_teq : FnOk P w K mg base CX0 1 _ _ _ _ := ok_teq F_T__eq T J f_isinstance m_Table
  have G_gri : FnOk P w K mg base CX0 2 _ _ _ _ := ok_grid_of F_grid_of T G_cod b_code_of F_code_of.kp m_code_of G_tna b_Tnames hNm G_tbo b_Tbounds hBd f_len f_range m_upto
  have G_tab : FnOk P w K mg base CX0 6 _ _ _ _ := ok_table_of F_table_of G_uof b_upper_of F_upper_of.kp m_upper_of G_ini MT b_T__init m_Table f_list f_enumerate
  have G_shu : FnOk P w K mg base CX0 2 _ _ _ _ := ok_shut F_shut G_tig G_sum b_tighter_code b_code_sum F_tighter_code.kp F_code_sum.kp m_tighter_code m_code_sum f_len f_range f_any m_upto
  have G_clo : FnOk P w K mg base CX0 3 _ _ _ _ := ok_closed_grid F_closed_grid G_shu G_gri b_shut b_grid_of F_shut.kp F_grid_of.kp m_shut m_grid_of
  have G_rep : FnOk P w K mg base CX0 7 _ _ _ _ := ok_replaced F_replaced G_clo G_tab b_closed_grid b_table_of F_closed_grid.kp F_table_of.kp m_closed_grid m_table_of
  have G_bni : FnOk P w K mg base CX0 1 _ _ _ _ := ok_bninit F_B__init OX hno
  have G_che : FnOk P w K mg base (L2.CX P w) 4 _ _ _ _ := ok_check F_check_choice T ER G_bca G_tna G_bni b_bad_choice_at b_Tnames b_B__init hNm F_bad_choice_at.kp m_bad_choice_at
  have G_beg : FnOk P w K mg base (L2.CX P w) 8 _ _ _ _ := ok_begun F_begun T G_che G_tna G_rep b_check_choice b_Tnames b_replaced hNm F_check_choice.kp F_replaced.kp m_check_choice m_replaced f_enumerate
  have G_wit : FnOk P w K mg base (L2.CX P w) 8 _ _ _ _ := ok_without F_without T G_che G_tna G_rep b_check_choice b_Tnames b_replaced hNm F_check_choice.kp F_replaced.kp m_check_choice m_replaced f_enumerate
  -- the law's helpers
  have L_cell : FnOk P w K mg base CX0 1 _ _ _ _ := ok_cell F_l_cell f_len f_sum
  have L_pool : FnOk P w K mg base CX0 1 _ _ _ _ := ok_pool F_l_pool f_int
  have L_take : FnOk P w K mg base CX0 1 _ _ _ _ := ok_take F_l_take f_int
  have L_mixed : FnOk P w K mg base CX0 2 _ _ _ _ := ok_mixed F_l_mixed L_take b_l_take F_l_take.kp m_l_take f_len f_range f_list
  have L_names : FnOk P w K mg base CX0 3 _ _ _ _ := ok_names F_l_names L_mixed b_l_mixed F_l_mixed.kp m_l_mixed
  have L_one : FnOk P w K mg base CX0 2 _ _ _ _ := ok_one F_l_one L_take b_l_take F_l_take.kp m_l_take f_len
  have L_word : FnOk P w K mg base CX0 1 _ _ _ _ := ok_word F_l_word
  have L_words : FnOk P w K mg base CX0 2 _ _ _ _ := ok_words F_l_words L_word b_l_word F_l_word.kp m_l_word f_dict
  have L_pairs : FnOk P w K mg base CX0 1 _ _ _ _ := ok_pairs F_l_pairs
  have L_drawn : FnOk P w K mg base CX0 3 _ _ _ _ := ok_drawn F_l_drawn L_take b_l_take F_l_take.kp m_l_take L_mixed b_l_mixed F_l_mixed.kp m_l_mixed L_pairs b_l_pairs F_l_pairs.kp m_l_pairs L_one b_l_one F_l_one.kp m_l_one f_dict f_list f_int
  have L_more : FnOk P w K mg base CX0 1 _ _ _ _ := ok_more F_l_more f_max
  have L_tight : FnOk P w K mg base CX0 1 _ _ _ _ := ok_tight F_l_tight
  have L_bars : FnOk P w K mg base CX0 1 _ _ _ _ := ok_bars F_l_bars
  have L_way : FnOk P w K mg base CX0 7 _ _ _ _ := ok_way F_l_way b_l_way F_l_way.kp m_l_way L_more b_l_more F_l_more.kp m_l_more L_tight b_l_tight F_l_tight.kp m_l_tight 6
  have L_ways : FnOk P w K mg base CX0 8 _ _ _ _ := ok_ways F_l_ways L_way b_l_way F_l_way.kp m_l_way L_more b_l_more F_l_more.kp m_l_more L_bars b_l_bars F_l_bars.kp m_l_bars
  have L_handed : FnOk P w K mg base CX0 3 _ _ _ _ := ok_handed F_l_handed L_mixed b_l_mixed F_l_mixed.kp m_l_mixed L_word b_l_word F_l_word.kp m_l_word L_one b_l_one F_l_one.kp m_l_one f_list
  have L_table : FnOk P w K mg base CX0 6 _ _ _ _ := ok_table F_l_table L_one b_l_one F_l_one.kp m_l_one L_handed b_l_handed F_l_handed.kp m_l_handed G_ini MT b_T__init m_Table f_list f_tuple
  have L_rest : FnOk P w K mg base CX0 1 _ _ _ _ := ok_rest F_l_rest f_dict
  have L_nought : FnOk P w K mg base CX0 2 _ _ _ _ := ok_nought F_l_at_nought L_rest b_l_rest F_l_rest.kp m_l_rest L_pairs b_l_pairs F_l_pairs.kp m_l_pairs
  exact ok_law F_law hcode ⟨L_cell, b_l_cell, F_l_cell.kp, m_l_cell⟩ ⟨L_pool, b_l_pool, F_l_pool.kp, m_l_pool⟩ ⟨L_names, b_l_names, F_l_names.kp, m_l_names⟩ ⟨L_one, b_l_one, F_l_one.kp, m_l_one⟩ ⟨L_drawn, b_l_drawn, F_l_drawn.kp, m_l_drawn⟩ ⟨L_table, b_l_table, F_l_table.kp, m_l_table⟩
    ⟨Rw.FnOk.way L_ways ways2, b_l_ways, F_l_ways.kp, m_l_ways⟩ ⟨L_mixed, b_l_mixed, F_l_mixed.kp, m_l_mixed⟩ ⟨L_take, b_l_take, F_l_take.kp, m_l_take⟩ ⟨L_words, b_l_words, F_l_words.kp, m_l_words⟩ ⟨L_nought, b_l_at_nought, F_l_at_nought.kp, m_l_at_nought⟩ ⟨L_rest, b_l_rest, F_l_rest.kp, m_l_rest⟩
    G_ini MT b_T__init m_Table ⟨G_beg, b_begun, F_begun.kp, m_begun⟩ ⟨G_wit, b_without, F_without.kp, m_without⟩ G_teq b_T__eq hEq.at_ hEq.fn hne hm G_tle b_T__len hLn.at_ hLn.fn F_l_met b_l_met m_l_met TB1 m_BadNames XF hno hx1 f_len f_list f_tuple f_range
end
end Rw
set_option Elab.async false
set_option linter.all false
set_option maxRecDepth 100000
set_option maxHeartbeats 0
open PySem PySem.W PySem.Calls PyProof.Rows
theorem PySem.Challenge.cw_rowsintime_k08_whole_begun_and_without_holds : PySem.Challenge.rw_rowsintime_k08_whole_begun_and_without.Holds := by
  w_on; o_law
  refine HandSHeadRun.head_any (r := OpenLaw.row PySem.Challenge.rw_rowsintime_k08_whole_begun_and_without) (q := view (OpenLaw.row PySem.Challenge.rw_rowsintime_k08_whole_begun_and_without).prog [57]) (H := Rw.hkA) (ob := Rw.obA) (M := 20000) (loose := Rw.names0)
    (d := HandSHeadRun.topDef (OpenLaw.row PySem.Challenge.rw_rowsintime_k08_whole_begun_and_without).prog 57) (kwd := []) Rw.obA_eq
    (by kernel_rfl) (fun s => by kernel_rfl) Rw.run0 (by kernel_rfl) (by kernel_rfl) (by kernel_rfl) (by rfl) (by first | assumption | decide +kernel) (by decide +kernel) ⟨rfl, rfl, rfl, rfl, rfl, by decide +kernel⟩ ?hw ?hc
  case hw => w_witness2
  case hc =>
    refine LamX.walk_ofTsE (l := PySem.Challenge.rw_rowsintime_k08_whole_begun_and_without) (n := 63) (k := 13) (x := "_law_script") (CX := fun _ => L2.CX0) rfl (by decide) (by kernel_rfl) ⟨rfl, by decide, by decide⟩ ?F (fun _ _ _ _ _ z => z)
    intro w mg fa h Y G hmg0
    obtain ⟨K, KX, c⟩ := Y
    have hmg : mg ("law" : PySem.Str) = some (.ref fa) := by
      have e : (HandSHeadRun.topDef (OpenLaw.row PySem.Challenge.rw_rowsintime_k08_whole_begun_and_without).prog 57).name = ("law" : PySem.Str) := by kernel_rfl
      rw [← e]
      exact hmg0
    exact ⟨K, KX, Rw.facts (P := (PySem.Challenge.rw_rowsintime_k08_whole_begun_and_without).prog) (w := w) KX G hmg c⟩
