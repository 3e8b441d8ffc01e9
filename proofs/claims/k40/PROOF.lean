import PyProof.Rows.All
import Wide.All
import OpenK.AllK
import Wide.FinOn
import KE.KStateDown
import Lean
import HandS.ForMost
import HandS.Wide
import HandS.IsInst
import HandS.Zip
import HandS.Walk
import HandS.Style
import HandS.Defaults
import HandS.MakeKwOnly
import HandS.CallRecv
import HandS.Sort
import HandS.Evl
import HandS.DictTup
import HandS.SortOrd
import HandS.Deep
import HandS.Head0
import HandS.Head1
import HandS.Head2
import HandS.HeadEnd
import HandS.HeadHook1
import HandS.HeadHook2
import HandS.TupAny
import KE.GoesNew
import KE.GoesMore
import HandS.Star
import KE.KDictPairs
import HandS.WordsDict
import HandS.SortRule
import HandS.More
import HandS.Strs
import HandS.SetFor
import HandS.SortInts
import HandS.TupMul
import HandS.Conv
import HandS.Flow
import PySem.Challenge.RW_latchgrove_k40_plans_known
set_option Elab.async false
set_option linter.all false
set_option maxRecDepth 100000
set_option maxHeartbeats 8000000
namespace HX
open PySem PySem.Spec PyProof.Rows L2

/-! ### numbers -/
def CPowW (i j : Int) : Prop := 0 ≤ j ∧ (Builtin.Int.intBits i : Int) * j ≤ 2 ^ 27
section
variable {X : Cx}
theorem op_powW : OpR X (binaryOp .Pow) (rI CPowW fun i j => .int (i ^ j.toNat)) := opI fun _ _ _ _ _ _ _ hc q => pow_int hc.1 hc.2 q
end
theorem intBits_le (x : Int) : Builtin.Int.intBits x ≤ x.natAbs.log2 + 1 := by
  unfold Builtin.Int.intBits
  split <;> omega
theorem powW_of {i j : Int} {a : Nat} (h0 : 0 ≤ j) (ha : i.natAbs < 2 ^ a) (hp : 0 < a) (h : (a : Int) * j ≤ 2 ^ 27) : CPowW i j := by
  refine ⟨h0, ?_⟩
  have x := PySem.Flt.log2_lt_of hp ha
  have y := intBits_le i
  have z : (Builtin.Int.intBits i : Int) ≤ (a : Int) := by omega
  exact Int.le_trans (Int.mul_le_mul_of_nonneg_right z h0) h

/-! ### xs[i] op= e -/
section
variable {X : Cx}
theorem get_list : PGet X (rIxL X.K) := by
  intro pins s σ H o i ov iv Q I rx ry h
  obtain ⟨p, xs, k, z, rfl, rfl, hq, he, q⟩ := h
  cases rx
  obtain ⟨t, rfl⟩ := ry
  obtain ⟨its, r, pl, hz⟩ := I.list hq
  obtain ⟨j, h1, h2, h3, h4, h5⟩ := atI_get he
  obtain ⟨w, ew, rw'⟩ := r.get h2
  have hl := r.length
  have hn := line63
  have fin : EP X pins σ Q w s := ⟨z, H, I, rw', q⟩
  by_cases h0 : 0 ≤ k
  · have hj : k.toNat = j := by
      rw [seqIndex_of h0 h5] at h1
      exact Option.some.inj h1
    exact wpAny_getItem_list pl.isList h0 (by omega) (by rw [hj]; simpa using ew) fin
  · have hj : (k + (its.toArray.size : Int)).toNat = j := by
      rw [seqIndex_neg (by omega) h4] at h1
      rw [List.size_toArray, ← hl]
      exact Option.some.inj h1
    exact wpAny_getItem_list_neg pl.isList (by omega) (by rw [List.size_toArray] <;> omega) (by omega) (by rw [hj]; simpa using ew) fin
end

/-! ### a walk over a range held as a value -/
section
variable {X : Cx} {tg : Expr}
def iRngV (te : TE) : TI := fun σ H R => te σ H fun v H1 => ∃ (a : Addr) (lo hi : Int), v = .ref a ∧ H1 a = some (.rng lo hi) ∧ (-(2 ^ 62) ≤ lo ∧ lo < 2 ^ 62 ∧ -(2 ^ 62) ≤ hi ∧ hi < 2 ^ 62) ∧ R (Itr lo (hi - lo).toNat) H1
theorem pi_rngV {e : Expr} {te : TE} (he : PE X e te) : PI X tg e (iRngV te) := by
  refine ⟨fun pins s σ H R I h => ?_⟩
  refine thn (he.run pins s σ H _ I h) fun u s1 ⟨x, H1, I1, rx, a, lo, hi, ex, ea, ⟨h1, h2, h3, h4⟩, q⟩ => ?_
  subst ex
  obtain rfl : u = Value.ref a := rx
  obtain ⟨t, u, v, ho⟩ := I1.hok _ _ ea
  refine wpAny_pyIter_range ho (small_one h1 h2 h3 h4) ?_
  refine ⟨s1.heap.objs.size, [s1.heap.objs.size], _, _, H1, rfl,
    I1.kept (t' := s1.toks) fun b o e => Heap.get?_push_of_some _ e, turn_range _ lo (hi - lo).toNat, ?_, fun b hb => ?_, q⟩
  · have e1 : lo + ((0 : Nat) : Int) * 1 = lo := by simp
    have e2 : (((hi - lo).toNat : Nat) : Int) - ((0 : Nat) : Int) = Builtin.Range.rangeSize lo hi 1 := by rw [rangeSize_one]; split <;> omega
    show IsRangeIter _ _ (lo + ((0 : Nat) : Int) * 1) ((((hi - lo).toNat : Nat) : Int) - ((0 : Nat) : Int)) 1
    rw [e1, e2]
    exact Heap.get?_push_size _ rfl
  · have e : b = s1.heap.objs.size := by simpa using hb
    subst e
    exact I1.fpOk (Nat.le_refl _) (I1.hok.fresh (Nat.le_refl _))
end

/-! ### heaps -/
theorem same_upd {H H' : Hp} {p : Addr} {o : HO} (s : Same H H') (h : H p = none) : Same H (upd H' p o) := fun b u e => by
  rw [upd_ne (fun z => by rw [z, h] at e; cases e)]
  exact s b u e
theorem same_new {H : Hp} {p : Addr} {o : HO} (h : H p = none) : Same H (upd H p o) := same_upd (Same.refl H) h
/-- all but what stands at p is as it was -/
def But (p : Addr) (H H' : Hp) : Prop := ∀ b o, b ≠ p → H b = some o → H' b = some o
theorem But.refl (p : Addr) (H : Hp) : But p H H := fun _ _ _ h => h
theorem But.trans {p : Addr} {H H1 H2 : Hp} (a : But p H H1) (b : But p H1 H2) : But p H H2 := fun c o n h => b c o n (a c o n h)
theorem But.of {p : Addr} {H H' : Hp} (s : Same H H') : But p H H' := fun b o _ h => s b o h
theorem But.upd {p : Addr} {H H' : Hp} {o : HO} (s : But p H H') : But p H (upd H' p o) := fun b u n e => by
  rw [upd_ne n]
  exact s b u n e
theorem But.new {p q : Addr} {H H' : Hp} {o : HO} (s : But p H H') (h : H' q = none) : But p H (L2.upd H' q o) := fun b u n e => by
  have e' := s b u n e
  rw [upd_ne (ne_of_none e' h)]
  exact e'
theorem But.seq {K : PySem.W.Frag} {H H' : Hp} {p a : Addr} {xs : List V} (e : But p H H') (n : a ≠ p) (h : SqL K H a xs) : SqL K H' a xs := by
  rcases h with (h | ⟨o, h⟩) | h
  · exact .inl (.inl (e _ _ n h))
  · exact .inl (.inr ⟨o, e _ _ n h⟩)
  · exact .inr h

/-! ### names of the module, of built-in classes -/
section
variable {X : Cx} {x : Str} {pos : Pos}
theorem pe_gint {i : Int} (h : ∃ t, X.mg x = some (.int i t)) (hg : Gl X x := by rfl) (hdb : (x == ("__debug__" : Str)) = false := by decide) : PE X (.Name x pos) (tC (.int i)) := by
  obtain ⟨t, ht⟩ := h
  exact pe_glob hg ht ⟨t, rfl⟩ hdb
theorem pe_ty (n : String) (hm : X.mg x = none) (hv : bootBuiltins x = some (.type n)) (hg : Gl X x := by rfl) (hn : x ≠ ("__name__" : Str) := by decide) (hdb : (x == ("__debug__" : Str)) = false := by decide) : PE X (.Name x pos) (tC (.ty n)) := pe_bltn hg hm hv rfl hn hdb
end

/-! ### lists of whole numbers by a function of the place -/
def fl (n : Nat) (f : Nat → Int) : List V := (List.range n).map fun i => V.int (f i)
theorem fl_len (n : Nat) (f : Nat → Int) : (fl n f).length = n := by unfold fl; rw [List.length_map, List.length_range]
theorem fl_get {n : Nat} {f : Nat → Int} {i : Nat} (h : i < n) : (fl n f)[i]? = some (.int (f i)) := by
  unfold fl
  rw [List.getElem?_map, List.getElem?_range h]
  rfl
theorem fl_at {n : Nat} {f : Nat → Int} {i : Nat} (h : i < n) : atI (fl n f) (i : Int) = some (.int (f i)) := atI_nat (fl_get h)
theorem fl_at' {n : Nat} {f : Nat → Int} {i : Int} {k : Nat} (h : k < n) (e : i = (k : Int)) : atI (fl n f) i = some (.int (f k)) := by
  subst e
  exact fl_at h
theorem at_of {α : Type} {xs : List α} {i : Int} {j : Nat} {v : α} (h : xs[j]? = some v) (e : i = (j : Int)) : atI xs i = some v := by
  subst e
  exact atI_nat h
theorem at_last {α : Type} {xs : List α} {n : Nat} {v : α} (hl : xs.length = n + 1) (h : xs[n]? = some v) : atI xs (-1) = some v := by
  have e : ixN xs.length (-1) = some n := by
    unfold ixN
    rw [hl, if_neg (by decide), if_pos (by omega)]
    congr 1
    omega
  unfold atI
  rw [e]
  exact h
theorem fl_congr {n : Nat} {f g : Nat → Int} (h : ∀ i, i < n → f i = g i) : fl n f = fl n g := by
  unfold fl
  exact List.map_congr_left fun i hi => by rw [h i (List.mem_range.mp hi)]
theorem fl_set {n : Nat} {f : Nat → Int} {j : Nat} (v : Int) (h : j < n) : (fl n f).set j (.int v) = fl n (fun i => if i = j then v else f i) := by
  refine List.ext_getElem? fun i => ?_
  by_cases hi : i < n
  · rw [fl_get hi, List.getElem?_set, fl_len]
    by_cases e : j = i
    · subst e
      rw [if_pos rfl, if_pos h, if_pos rfl]
    · rw [if_neg e, fl_get hi, if_neg (fun z => e z.symm)]
  · rw [List.getElem?_eq_none (by rw [List.length_set, fl_len]; omega), List.getElem?_eq_none (by rw [fl_len]; omega)]
theorem fl_rep (n : Nat) (v : Int) : (List.replicate n [V.int v]).flatten = fl n (fun _ => v) := by
  refine List.ext_getElem? fun i => ?_
  have e : (List.replicate n [V.int v]).flatten = List.replicate n (V.int v) := by
    induction n with
    | zero => rfl
    | succ n ih => rw [List.replicate_succ, List.flatten_cons, ih]; rfl
  rw [e]
  by_cases hi : i < n
  · rw [fl_get hi, List.getElem?_replicate, if_pos hi]
  · rw [List.getElem?_eq_none (by rw [List.length_replicate]; omega), List.getElem?_eq_none (by rw [fl_len]; omega)]
theorem fl_snoc (n : Nat) (f : Nat → Int) : fl n f ++ [.int (f n)] = fl (n + 1) f := by
  unfold fl
  rw [List.range_succ, List.map_append]
  rfl
theorem fl_cons (n : Nat) (f : Nat → Int) : V.int (f 0) :: fl n (fun i => f (i + 1)) = fl (n + 1) f := by
  unfold fl
  rw [List.range_succ_eq_map, List.map_cons, List.map_map]
  rfl
theorem ixN_nat {n j : Nat} (h : j < n) : ixN n (j : Int) = some j := by
  unfold ixN
  rw [if_pos (by omega), if_pos (by omega)]
  simp
theorem ixN_nat' {n j : Nat} {i : Int} (h : j < n) (e : i = (j : Int)) : ixN n i = some j := by
  subst e
  exact ixN_nat h
theorem take_more {α : Type} : ∀ {l : List α} {i : Nat} {x : α}, l[i]? = some x → l.take (i + 1) = l.take i ++ [x]
  | [], i, x, h => by simp at h
  | a :: l, 0, x, h => by
    have e : a = x := Option.some.inj h
    subst e
    rfl
  | a :: l, i + 1, x, h => by
    have ih := take_more (l := l) (i := i) (x := x) h
    show a :: l.take (i + 1) = a :: l.take i ++ [x]
    rw [ih]
    rfl
theorem Same.list {H H' : Hp} {a : Addr} {xs : List V} (s : Same H H') (h : H a = some (.lst xs)) : H' a = some (.lst xs) := s _ _ h

/-! ### fields -/
theorem lk_hit (f : Str) (v : V) (fs : List (Str × V)) : (putF f v fs).lookup f = some v := by rw [lookup_putF, if_pos rfl]
theorem lk_miss {f g : Str} (h : ¬ f = g) {v : V} {fs : List (Str × V)} {o : Option V} (q : fs.lookup g = o) : (putF f v fs).lookup g = o := by rw [lookup_putF, if_neg (fun z => h z.symm)]; exact q
theorem putF_len (f : Str) (v : V) : ∀ fs : List (Str × V), (putF f v fs).length ≤ fs.length + 1
  | [] => Nat.le_refl _
  | (g, x) :: r => by
    unfold putF
    split
    · exact Nat.le_succ _
    · exact Nat.succ_le_succ (putF_len f v r)
theorem putF_lt {f : Str} {v : V} {fs : List (Str × V)} {n : Nat} (h : fs.length < n) : (putF f v fs).length < n + 1 := Nat.lt_of_le_of_lt (putF_len f v fs) (Nat.succ_lt_succ h)

/-! ### the same rules with the written part named (for what stands in a comprehension) -/
section
variable {X : Cx}
theorem ixl (K : PySem.W.Frag) (h : X.K = K := by rfl) : IxR X (rIxL K) := by
  subst h
  exact ix_list
theorem ixt (K : PySem.W.Frag) (h : X.K = K := by rfl) : IxR X (rIxT K) := by
  subst h
  exact ix_tup
theorem lenK (K : PySem.W.Frag) (h : X.K = K := by rfl) : CallR X (.builtin "len") (fun xs H Q => ∃ p ys, xs = [.ref p] ∧ (SqL K H p ys ∨ SqT K H p ys) ∧ Q (.int ys.length) H) := by
  subst h
  exact call_len_seq
theorem isiK (K : PySem.W.Frag) (h : X.K = K := by rfl) : CallR X (.builtin "isinstance") (rIsi K) := by
  subst h
  exact call_isi
theorem sllK (K : PySem.W.Frag) (h : X.K = K := by rfl) : SlR X (rSlL K) := by
  subst h
  exact sl_list
theorem pe_fldK (K : PySem.W.Frag) {e : Expr} {f : Str} {pos : Pos} {ta : TE} (he : PE X e ta) (hb : attributeBase e f X.env (eval e X.env) = eval e X.env) (h : X.K = K := by rfl) : PE X (.Attribute e f pos) (tFld K ta f) := by
  subst h
  exact pe_fld he hb
end
end HX

/-! ### sorted(d.items()), d a dict with whole numbers as keys and objects as values -/
namespace HS
open PySem PySem.Spec PyProof.Rows L2
section
variable {X : Cx}
/-- d.items() -/
def rItemsK : V → List V → Hp → VK → Prop := fun x xs H Q => ∃ (a : Addr) (kvs : List (L2.Key × V)), x = .ref a ∧ xs = [] ∧ H a = some (.dK kvs) ∧ ∀ p, H p = none → Q (.ref p) (upd H p (DX.itemsO p a))
theorem mt_itemsK : MtR X "dict.items" rItemsK := by
  intro pins s σ H x xs v us Q I rx rxs h
  obtain ⟨a, kvs, rfl, rfl, ha, q⟩ := h
  cases rx
  cases rxs
  obtain ⟨z, hd, vs, rel, o, es, ep, ho, hx, hdat, _⟩ := dk_of I.hok ha
  refine DT.callItems (es := es) (ep := ep) hd ⟨o, ho, hx, hdat⟩ ?_
  have hf : H s.heap.objs.size = none := I.hok.fresh (Nat.le_refl _)
  exact ⟨.ref s.heap.objs.size, upd H s.heap.objs.size (DX.itemsO s.heap.objs.size a), I.laid (t' := s.toks) (fun b u e => Heap.get?_push_of_some _ e) (Nat.le_refl _) (DX.itemsO_ok (Heap.get?_push_size _ rfl)), rfl, q _ hf⟩
abbrev entK (e : Int × Addr) : L2.Key × V := (Sum.inl e.1, V.ref e.2)
def rSortItK : List V → Hp → VK → Prop := fun vs H Q => ∃ (p a : Addr) (ks : List (Int × Addr)), vs = [.ref p] ∧ H p = some (DX.itemsO p a) ∧ H a = some (.dK (ks.map entK)) ∧
  ∀ (H' : Hp) (l : Addr) (ps : List (Addr × Int × Addr)), (∀ b o, H b = some o → H' b = some o) → H l = none → (ps.map (·.2)).Perm ks → (ps.map (·.2)).Pairwise (fun e f => e.1 < f.1) → H' l = some (.lst (ps.map fun z => V.ref z.1)) →
    (∀ z ∈ ps, H' z.1 = some (.tup [.int z.2.1, .ref z.2.2])) → Q (.ref l) H'
/-- the first item, a whole number, of the tuple that the value stands for -/
def kfI (h : Heap) (v : Value) : Int := match v with
  | .ref b => (match h.get? b with
    | some o => (match o.data with
      | .seq xs _ => (match (xs[0]? : Option Value) with
        | some (Value.int i _) => i
        | _ => 0)
      | _ => 0)
    | _ => 0)
  | _ => 0
theorem kfI_of {h : Heap} {b : Addr} {o : Obj} {i : Int} {t : Tok} {v : Value} {n : Nat} (ho : h.get? b = some o) (hd : o.data = .seq #[.int i t, v] n) : kfI h (.ref b) = i := by
  unfold kfI
  simp only [ho, hd]
  rfl
theorem swo_int (k : Value → Int) : SrtO.Swo fun v u => decide (k v < k u) := by
  refine ⟨fun x y h => ?_, fun x y z h1 h2 => ?_⟩
  · have a := of_decide_eq_true h
    exact decide_eq_false (by omega)
  · have a := of_decide_eq_false h1
    have b := of_decide_eq_false h2
    exact decide_eq_false (by omega)
/-- a pair with a whole number first -/
def IsEnt (h : Heap) (v : Value) (i : Int) : Prop := ∃ (a : Addr) (o : Obj) (t : Tok) (u : Value) (n : Nat), v = .ref a ∧ h.get? a = some o ∧ o.cls = .type "tuple" ∧ o.data = .seq #[.int i t, u] n
theorem firstsE {h : Heap} {k : Value → Int} : ∀ vs : List Value, (∀ v ∈ vs, IsEnt h v (k v)) → ∃ fs : List Value, PySem.W.KatTups h vs fs ∧ fs.length = vs.length ∧ ∀ f ∈ fs, ∃ x t, f = Value.int x t
  | [], _ => ⟨[], PySem.W.KatTups.nil, rfl, fun f hf => nomatch hf⟩
  | v :: vs, x => by
    obtain ⟨fs, k1, hl, hi⟩ := firstsE (h := h) (k := k) vs fun u hu => x u (List.mem_cons_of_mem _ hu)
    obtain ⟨a, o, t, u, n, e, ho, hc, hd⟩ := x v (List.mem_cons_self ..)
    subst e
    refine ⟨.int (k (.ref a)) t :: fs, PySem.W.KatTups.cons ho hc hd rfl k1, congrArg Nat.succ hl, fun f hf => ?_⟩
    rcases List.mem_cons.mp hf with rfl | hf
    · exact ⟨_, _, rfl⟩
    · exact hi f hf
section
variable {prog : Program} {w : World} {A : Around} {s : Shared}
theorem ent_cmp {vs : List Value} {k : Value → Int} (hp : ∀ v ∈ vs, IsEnt s.heap v (k v)) (inj : ∀ v ∈ vs, ∀ u ∈ vs, k v = k u → v = u) : SrtO.Cmp prog w A s (tuples' true) (fun p => p.1 ∈ vs) (SrtO.lt2 fun v u => decide (k v < k u)) := by
  intro p q hm hm'
  have h1 := hp _ hm
  have h2 := hp _ hm'
  have hi := inj _ hm _ hm'
  show wpAny (model prog w) A (keyLt' (tuples' true) p.1 q.1) (fun r s' => s' = s ∧ r = decide (k p.1 < k q.1)) (fun _ _ => False) s
  generalize k p.1 = x at h1 hi ⊢
  generalize k q.1 = x' at h2 hi ⊢
  obtain ⟨a, o, t, u, n, e, ho, hc, hd⟩ := h1
  obtain ⟨a', o', t', u', n', e', ho', hc', hd'⟩ := h2
  rw [e, e']
  refine PySem.W.kat_lt ho hd ho' hd' ?_
  show PySem.W.KatLex prog w A true (decide (2 < 2)) _ [(.int x t, .int x' t'), (u, u')] 0 s
  refine PySem.W.kat_cons (SeqAt.EqAt.int_int x t x' t' prog w _ _ ?_)
  refine PySem.W.kat_go (fun e1 => ?_) (fun e1 => ?_)
  · have ex : x = x' := by simpa using e1
    have ev := hi ex
    rw [e, e'] at ev
    cases ev
    have eo : o = o' := Option.some.inj (ho.symm.trans ho')
    subst eo
    rw [hd] at hd'
    have eu : u = u' := by
      injection hd' with h1 h2
      have z := congrArg (fun (a : Array Value) => a[1]?) h1
      simpa using z
    subst eu
    refine PySem.W.kat_yes (PySem.W.kat_cons (SeqAt.EqAt.same u prog w _ _ ?_))
    refine PySem.W.kat_yes (PySem.W.kat_nil ⟨rfl, ?_⟩)
    rw [ex]
    exact (decide_eq_false (Int.lt_irrefl _)).symm
  · exact PySem.W.kat_no (oneLt_int ⟨rfl, rfl⟩)
theorem ents_sortable {a : Addr} {vs : List Value} {k : Value → Int} (h0 : 0 < vs.length) (hp : ∀ v ∈ vs, IsEnt s.heap v (k v)) (inj : ∀ v ∈ vs, ∀ u ∈ vs, k v = k u → v = u) (ha : ∀ o, s.heap.get? a = some o → o.cls ≠ .type "tuple") :
    SrtO.SortableO prog w A s a vs fun v u => decide (k v < k u) := by
  intro h' keep
  have hp' : ∀ v ∈ vs, IsEnt h' v (k v) := fun v hm => by
    obtain ⟨b, o, t, u, n, e, ho, hc, hd⟩ := hp v hm
    exact ⟨b, o, t, u, n, e, keep b o (fun z => by subst z; exact ha o ho hc) ho, hc, hd⟩
  obtain ⟨fs, h1, h2, h3⟩ := firstsE (h := h') (k := k) vs hp'
  refine ⟨tuples' true, fun Q E hq => ?_, ent_cmp hp' inj⟩
  refine PySem.W.kat_kind (T := .type "int") h1 (by omega) (fun f hm => ?_) (by rfl) ?_
  · obtain ⟨x, t, rfl⟩ := h3 f hm
    exact PySem.W.Looks.now
  · have e : (Value.type "int" != Value.type "tuple") = true := by first | decide +kernel | rfl | decide
    rw [e]
    exact hq
end
theorem pairs_at {P : Program} {w : World} : ∀ {es : List DictEntry} {vs : List (L2.Key × Value)}, Pairs (mixKind P w) es vs → ∀ (j : Nat) (e : DictEntry), es[j]? = some e → ∃ kv, vs[j]? = some kv ∧ keyIs kv.1 e.key = true ∧ e.val = kv.2
  | _, _, .nil, j, e, h => by simp at h
  | _, _, .cons h1 h2 r, 0, e, h => by
    cases h
    exact ⟨_, rfl, h1, h2⟩
  | _, _, .cons h1 h2 r, j + 1, e, h => pairs_at r j e h
theorem kv_at : ∀ {ks : List (Int × Addr)} {vs : List (L2.Key × Value)}, KV (ks.map entK) vs → ∀ (j : Nat) (kv : L2.Key × Value), vs[j]? = some kv → ∃ e, ks[j]? = some e ∧ kv = (Sum.inl e.1, Value.ref e.2)
  | [], _, h, j, kv, q => by
    cases h
    simp at q
  | e :: ks, _, h, j, kv, q => by
    cases h with
    | cons r rs =>
      cases j with
      | zero =>
        have q' := Option.some.inj q
        obtain ⟨r1, r2⟩ := r
        refine ⟨e, rfl, ?_⟩
        rw [← q']
        exact Prod.ext r1.symm r2
      | succ j => exact kv_at (ks := ks) rs j kv q
theorem cr_sortedItK (hc : X.calm = true) : CallR X (.builtin "sorted") rSortItK := by
  intro pins s σ H xs us Q I r h
  obtain ⟨p, a, ks, rfl, hp, ha, q⟩ := h
  obtain rfl := Vals.ref1 r
  have view : s.heap.IsItemsView p a := (show ObjOk X.prog X.w H s.heap p (DX.itemsO p a) from I.hok p _ hp).1
  obtain ⟨z, hd, vs', rel, o, es, ep, ho, hx, hdat, hko, hpairs, hnd⟩ := dk_of I.hok ha
  have l1 : (ks.map entK).length = vs'.length := Paired.length rel
  rw [List.length_map] at l1
  have l2 : es.size = vs'.length := by
    rw [← Pairs.length hpairs, Array.length_toList]
  rw [List.length_map] at z
  have hh : X.A.handled = none := I.ok.hd hc
  refine DT.sortedI (es := es) (ep := ep) hh view ⟨o, ho, hx, hdat⟩ (by omega) fun h' tk as hk hlt hl hG => ?_
  have lak : as.length = ks.length := by omega
  have nd : as.Nodup := List.Pairwise.imp (fun h => Nat.ne_of_lt h) hG.rise
  have pr : ∀ (j : Nat) (b : Addr), as[j]? = some b → ∃ (e : Int × Addr) (t : Tok), ks[j]? = some e ∧ h'.get? b = some { cls := .type "tuple", data := .seq #[Value.int e.1 t, Value.ref e.2] } := by
    intro j b hj
    obtain ⟨en, he, hg⟩ := hG.pairs j b hj
    obtain ⟨kv, h1, h2, h3⟩ := pairs_at hpairs j en (by rw [Array.getElem?_toList]; exact he)
    obtain ⟨e, h4, rfl⟩ := kv_at rel j kv h1
    rcases keyIs_shape h2 with ⟨i, t, e1, e2⟩ | ⟨i, t, e1, e2⟩
    · cases e1
      rw [e2, h3] at hg
      exact ⟨e, t, h4, hg⟩
    · cases e1
  have knd : (ks.map (·.1)).Nodup := by
    have e : vs'.map (·.1) = ks.map fun e => (Sum.inl e.1 : L2.Key) := by
      refine List.ext_getElem? fun j => ?_
      rw [List.getElem?_map, List.getElem?_map]
      cases hv : vs'[j]? with
      | none =>
        have : ks[j]? = none := List.getElem?_eq_none (by rw [l1]; exact List.getElem?_eq_none_iff.mp hv)
        rw [this]
        rfl
      | some kv =>
        obtain ⟨e, h4, rfl⟩ := kv_at rel j kv hv
        rw [h4]
        rfl
    rw [e] at hnd
    exact List.pairwise_map.mpr (List.Pairwise.imp (fun {x y} h z => h (congrArg Sum.inl z)) (List.pairwise_map.mp hnd))
  have hob : (h'.push { cls := .type "list", data := .seq (as.map Value.ref).toArray }).get? h'.objs.size = some (seqObj "list" (as.map Value.ref).toArray 0) := Heap.get?_push_size _ rfl
  have kb : ∀ b o, s.heap.get? b = some o → (h'.push { cls := .type "list", data := .seq (as.map Value.ref).toArray }).get? b = some o := fun b o e => Heap.get?_push_of_some _ (hk b o e)
  have ne0 : ∀ b o, h'.get? b = some o → b ≠ h'.objs.size := fun b o e => Nat.ne_of_lt (Heap.lt_size e)
  generalize hh2 : h'.push { cls := .type "list", data := .seq (as.map Value.ref).toArray } = h2 at hob kb ⊢
  have ka : ∀ b o, h'.get? b = some o → h2.get? b = some o := fun b o e => by rw [← hh2]; exact Heap.get?_push_of_some _ e
  have at_ : ∀ v ∈ as.map Value.ref, ∃ (j : Nat) (b : Addr) (e : Int × Addr) (t : Tok), v = .ref b ∧ as[j]? = some b ∧ ks[j]? = some e ∧ h'.get? b = some { cls := .type "tuple", data := .seq #[Value.int e.1 t, Value.ref e.2] } := by
    intro v hv'
    obtain ⟨b, hb, rfl⟩ := List.mem_map.mp hv'
    obtain ⟨j, hj⟩ := List.mem_iff_getElem?.mp hb
    obtain ⟨e, t, he, hg⟩ := pr j b hj
    exact ⟨j, b, e, t, rfl, hj, he, hg⟩
  have kf : ∀ (b : Addr) (e : Int × Addr) (t : Tok), h'.get? b = some { cls := .type "tuple", data := .seq #[Value.int e.1 t, Value.ref e.2] } → kfI h' (.ref b) = e.1 := fun b e t hg => kfI_of hg rfl
  have ent : ∀ v ∈ as.map Value.ref, IsEnt h2 v (kfI h' v) := by
    intro v hv
    obtain ⟨j, b, e, t, rfl, _, _, hg⟩ := at_ v hv
    exact ⟨b, _, t, .ref e.2, 0, rfl, ka _ _ hg, rfl, by rw [kf b e t hg]⟩
  have inj : ∀ v ∈ as.map Value.ref, ∀ u ∈ as.map Value.ref, kfI h' v = kfI h' u → v = u := by
    intro v hv u hu hvu
    obtain ⟨j, b, e, t, rfl, j1, j2, hg⟩ := at_ v hv
    obtain ⟨i, c, f, t', rfl, i1, i2, hg'⟩ := at_ u hu
    rw [kf b e t hg, kf c f t' hg'] at hvu
    have ej : (ks.map (·.1))[j]? = some e.1 := by rw [List.getElem?_map, j2]; rfl
    have ei : (ks.map (·.1))[i]? = some e.1 := by rw [List.getElem?_map, i2, hvu]; rfl
    have eij : j = i := (List.getElem?_inj (List.getElem?_eq_some_iff.mp ej).1 knd).mp (ej.trans ei.symm)
    subst eij
    rw [i1] at j1
    cases j1
    rfl
  refine wpAny_call_entry PyProof.Rows.slot_list_sort ⟨_, hob, rfl⟩ PyProof.Rows.entry_list_sort
    (SrtO.list_sort_ord (s := { s with heap := h2, toks := tk }) (swo_int (kfI h')) hob (by rw [List.length_map]; omega) (fun h2' => ents_sortable (s := { s with heap := h2, toks := tk }) (by omega) ent inj fun o e => ?_) fun out o1 o2 => ⟨.none, rfl, ?_⟩) (PyProof.Rows.args_list_sort _)
  · have e' : some o = some (seqObj "list" (as.map Value.ref).toArray 0) := e.symm.trans hob
    cases e'
    intro c
    exact absurd (Value.type.inj c) (by decide)
  · show EP X pins σ Q (.ref h'.objs.size) { s with heap := sortedHeap h2 h'.objs.size (as.map Value.ref) out.toArray, toks := tk }
    obtain ⟨zs, pz, ez⟩ := perm_lift (fun z : Addr × Int × Addr => Value.ref z.1) o2.perm (as.zip ks) (by
      rw [show (fun z : Addr × Int × Addr => Value.ref z.1) = Value.ref ∘ Prod.fst from rfl, ← List.map_map, List.map_fst_zip (by omega)])
    have idx : ∀ z ∈ zs, ∃ j : Nat, as[j]? = some z.1 ∧ ks[j]? = some z.2 := by
      intro z' hz'
      obtain ⟨j, hj⟩ := List.mem_iff_getElem?.mp (pz.mem_iff.mp hz')
      exact ⟨j, List.getElem?_zip_eq_some.mp hj⟩
    have hperm : (zs.map (·.2)).Perm ks := by
      have e := pz.map (·.2)
      have m2 : (as.zip ks).map (·.2) = ks := List.map_snd_zip (by rw [lak]; exact Nat.le_refl _)
      rw [m2] at e
      exact e
    have kz : ∀ z ∈ zs, kfI h' (.ref z.1) = z.2.1 := fun z hz => by
      obtain ⟨j, j1, j2⟩ := idx z hz
      obtain ⟨e, t, he, hg⟩ := pr j _ j1
      rw [kf _ e t hg]
      rw [he] at j2
      cases j2
      rfl
    have hsort : (zs.map (·.2)).Pairwise (fun e f => e.1 < f.1) := by
      have le : (zs.map (·.2)).Pairwise (fun e f => e.1 ≤ f.1) := by
        have o1' : out.Pairwise (fun v u => decide (kfI h' u < kfI h' v) = false) := o1
        rw [← ez, List.pairwise_map] at o1'
        rw [List.pairwise_map]
        refine List.Pairwise.imp_of_mem (fun {x y} hx hy h => ?_) o1'
        have h2 := of_decide_eq_false h
        rw [kz x hx, kz y hy] at h2
        omega
      have ne : (zs.map (·.2)).Pairwise (fun e f => e.1 ≠ f.1) := by
        have n1 : ((zs.map (·.2)).map (·.1)).Nodup := (hperm.map (·.1)).nodup_iff.mpr knd
        exact List.pairwise_map.mp n1
      exact List.Pairwise.imp (fun {x y} h => by have := h.1; have := h.2; omega) (List.Pairwise.and le ne)
    have kF : ∀ b o, b ≠ h'.objs.size → h2.get? b = some o → (sortedHeap h2 h'.objs.size (as.map Value.ref) out.toArray).get? b = some o := fun b o hb e => (PyProof.Rows.sortedHeap_old hb (Heap.lt_size e)).trans e
    have kS : ∀ b o, s.heap.get? b = some o → (sortedHeap h2 h'.objs.size (as.map Value.ref) out.toArray).get? b = some o := fun b o e => kF b o (ne0 _ _ (hk b o e)) (kb b o e)
    obtain ⟨eF, heF⟩ := PyProof.Rows.sortedHeap_at (vs := as.map Value.ref) (out := out.toArray) hob
    have I1 : Inv X pins σ H { s with heap := sortedHeap h2 h'.objs.size (as.map Value.ref) out.toArray, toks := tk } := I.kept (t' := tk) kS
    have hn0 : H h'.objs.size = none := I.hok.fresh (Nat.le_of_lt hlt)
    have hlen : (zs.map fun z => V.ref z.1).length ≤ sizeLine := by
      have e := hperm.length_eq
      rw [List.length_map] at e
      rw [List.length_map]
      omega
    have rv : Vals (zs.map fun z => V.ref z.1) out := by
      rw [← ez]
      exact vals_maps (fun z : Addr × Int × Addr => V.ref z.1) (fun z => Value.ref z.1) zs fun _ _ => rfl
    have I2 : Inv X pins σ (upd H h'.objs.size (.lst (zs.map fun z => V.ref z.1))) { s with heap := sortedHeap h2 h'.objs.size (as.map Value.ref) out.toArray, toks := tk } :=
      I1.take (h' := sortedHeap h2 h'.objs.size (as.map Value.ref) out.toArray) (t' := tk) (fun b ob _ e => e) (I.fpOk (Nat.le_of_lt hlt) hn0) ⟨hlen, out, eF, rv, heF⟩
    obtain ⟨H2, I3, g, qt⟩ := DX.takeT (P := fun b vs => ∃ (j : Nat) (e : Int × Addr), as[j]? = some b ∧ ks[j]? = some e ∧ vs = [.int e.1, .ref e.2]) I as _ I2 nd fun b hb => by
      obtain ⟨j, hj⟩ := List.mem_iff_getElem?.mp hb
      obtain ⟨e, t, he, hg⟩ := pr j b hj
      have hbl : s.heap.objs.size ≤ b := Nat.le_of_lt (hG.above b hb)
      refine ⟨hbl, ?_, [.int e.1, .ref e.2], ⟨j, e, hj, he, rfl⟩, fun H3 => ⟨(by rw [sizeLine_eq]; show 2 ≤ 16777216; omega), [Value.int e.1 t, Value.ref e.2], .cons ⟨t, rfl⟩ (.cons rfl .nil), ⟨_, kF _ _ (ne0 _ _ hg) (ka _ _ hg), rfl, 0, rfl⟩⟩⟩
      rw [upd_ne (ne0 _ _ hg)]
      exact I.hok.fresh hbl
    have gr : ∀ b o, H b = some o → H2 b = some o := fun b o e => g b o (by rw [upd_ne (ne_of_none e hn0)]; exact e)
    refine ⟨.ref h'.objs.size, H2, I3, rfl, q H2 h'.objs.size zs gr hn0 hperm hsort (g _ _ upd_same) fun z' hz' => ?_⟩
    obtain ⟨i, i1, i2⟩ := idx z' hz'
    obtain ⟨vs, ⟨j, e, j1, j2, ev⟩, hH⟩ := qt z'.1 (List.mem_of_getElem? i1)
    have eij : i = j := (List.getElem?_inj (List.getElem?_eq_some_iff.mp i1).1 nd).mp (i1.trans j1.symm)
    subst eij
    have ee : e = z'.2 := Option.some.inj (j2.symm.trans i2)
    rw [ev, ee] at hH
    exact hH
end
end HS

/-! ### shapes, trees: plain mathematics, and what stands for them in a heap -/
namespace TR
open PySem PySem.Spec PyProof.Rows L2 HX
def Sh : Nat → Type
  | 0 => Nat
  | l + 1 => List (Sh l)
def Sh.n (s : Sh 0) : Nat := s
def Sh.ks {l : Nat} (s : Sh (l + 1)) : List (Sh l) := s
def cntS : (l : Nat) → Sh l → Nat
  | 0, n => n
  | l + 1, ks => (ks.ks.map (cntS l)).sum
def pgsS : (l : Nat) → Sh l → Nat
  | 0, _ => 1
  | l + 1, ks => 1 + (ks.ks.map (pgsS l)).sum
def loS (room l : Nat) (top : Bool) : Nat := if top = true then (if l = 0 then 0 else 2) else (room + 1) / 2
def WfSh (room : Nat) : (l : Nat) → Bool → Sh l → Prop
  | 0, top, n => loS room 0 top ≤ n.n ∧ n.n ≤ room
  | l + 1, top, ks => loS room (l + 1) top ≤ ks.ks.length ∧ ks.ks.length ≤ room ∧ ∀ k ∈ ks.ks, WfSh room l false k
/-- how many pages at most -/
def cS (room : Nat) : Nat → Nat
  | 0 => 1
  | l + 1 => 1 + room * cS room l
theorem sum_le {α : Type} {f : α → Nat} {c : Nat} : ∀ {xs : List α}, (∀ x ∈ xs, f x ≤ c) → (xs.map f).sum ≤ xs.length * c
  | [], _ => Nat.zero_le _
  | x :: xs, h => by
    have a := h x (List.mem_cons_self ..)
    have b := sum_le (f := f) (c := c) (xs := xs) fun y hy => h y (List.mem_cons_of_mem _ hy)
    rw [List.map_cons, List.sum_cons, List.length_cons, Nat.succ_mul]
    omega
theorem pgs_le {room : Nat} : ∀ {l : Nat} {top : Bool} {s : Sh l}, WfSh room l top s → pgsS l s ≤ cS room l
  | 0, _, _, _ => Nat.le_refl 1
  | l + 1, _, s, h => by
    obtain ⟨_, h2, h3⟩ := h
    have a := sum_le (f := pgsS l) (c := cS room l) (xs := s.ks) fun k hk => pgs_le (h3 k hk)
    have b : s.ks.length * cS room l ≤ room * cS room l := Nat.mul_le_mul_right _ h2
    show 1 + (s.ks.map (pgsS l)).sum ≤ 1 + room * cS room l
    omega
theorem cnt_le {room : Nat} : ∀ {l : Nat} {top : Bool} {s : Sh l}, WfSh room l top s → cntS l s ≤ room * cS room l
  | 0, _, s, h => by
    have := h.2
    show s.n ≤ room * 1
    omega
  | l + 1, _, s, h => by
    obtain ⟨_, h2, h3⟩ := h
    have a := sum_le (f := cntS l) (c := room * cS room l) (xs := s.ks) fun k hk => cnt_le (h3 k hk)
    have b : s.ks.length * (room * cS room l) ≤ room * (room * cS room l) := Nat.mul_le_mul_right _ h2
    show (s.ks.map (cntS l)).sum ≤ room * (1 + room * cS room l)
    rw [Nat.mul_add]
    omega
/-! ### in the heap -/
/-- tuples never change -/
def tpb : HO → Bool
  | .tup _ => true
  | .frz _ (.tup _) => true
  | _ => false
structure Keep (H H' : Hp) : Prop where
  all : ∀ b u, tpb u = true → H b = some u → H' b = some u
instance {H H' : Hp} : CoeFun (Keep H H') (fun _ => ∀ b xs, H b = some (.tup xs) → H' b = some (.tup xs)) := ⟨fun k b _ h => k.all b _ rfl h⟩
theorem Keep.frz {H H' : Hp} (k : Keep H H') {b : Addr} {o : Obj} {xs : List V} (h : H b = some (.frz o (.tup xs))) : H' b = some (.frz o (.tup xs)) := k.all b _ rfl h
theorem Keep.refl (H : Hp) : Keep H H := ⟨fun _ _ _ h => h⟩
theorem Keep.trans {H H1 H2 : Hp} (a : Keep H H1) (b : Keep H1 H2) : Keep H H2 := ⟨fun c u t h => b.all c u t (a.all c u t h)⟩
theorem Keep.of {H H' : Hp} (s : Same H H') : Keep H H' := ⟨fun b u _ h => s b _ h⟩
theorem tpb_no {H : Hp} {p : Addr} (h : ∀ u, H p = some u → tpb u = false) {b : Addr} {u : HO} (t : tpb u = true) (e : H b = some u) : b ≠ p := fun z => by
  subst z
  rw [h u e] at t
  cases t
theorem Keep.but {H H' : Hp} {p : Addr} (s : But p H H') (h : ∀ u, H p = some u → tpb u = false) : Keep H H' := ⟨fun b u t e => s b _ (tpb_no h t e) e⟩
theorem Keep.upd {H H' : Hp} {p : Addr} {o : HO} (s : Keep H H') (h : ∀ u, H' p = some u → tpb u = false) : Keep H (upd H' p o) := ⟨fun b u t e => by
  have z := s.all b u t e
  rw [upd_ne (tpb_no h t z)]
  exact z⟩
def ShAt (H : Hp) : (l : Nat) → V → Sh l → Prop
  | 0, v, n => v = .int (n.n : Int)
  | l + 1, v, ks => ∃ (a : Addr) (xs : List V), v = .ref a ∧ H a = some (.tup xs) ∧ Paired (ShAt H l) xs ks.ks
theorem paired_imp {α β : Type} {R R' : α → β → Prop} (h : ∀ x y, R x y → R' x y) : ∀ {xs : List α} {ys : List β}, Paired R xs ys → Paired R' xs ys
  | _, _, .nil => .nil
  | _, _, .cons r rs => .cons (h _ _ r) (paired_imp h rs)
theorem paired_snoc {α β : Type} {R : α → β → Prop} {x : α} {y : β} (h : R x y) : ∀ {xs : List α} {ys : List β}, Paired R xs ys → Paired R (xs ++ [x]) (ys ++ [y])
  | _, _, .nil => .cons h .nil
  | _, _, .cons r rs => .cons r (paired_snoc h rs)
theorem pget1 {α β : Type} {R : α → β → Prop} : ∀ {xs : List α} {ys : List β}, Paired R xs ys → ∀ {i : Nat} {x : α}, xs[i]? = some x → ∃ y, ys[i]? = some y ∧ R x y
  | _, _, .nil, i, x, h => by simp at h
  | _, _, .cons r rs, 0, x, h => by
    cases h
    exact ⟨_, rfl, r⟩
  | _, _, .cons r rs, i + 1, x, h => pget1 rs (i := i) h
theorem pget2 {α β : Type} {R : α → β → Prop} : ∀ {xs : List α} {ys : List β}, Paired R xs ys → ∀ {i : Nat} {y : β}, ys[i]? = some y → ∃ x, xs[i]? = some x ∧ R x y
  | _, _, .nil, i, x, h => by simp at h
  | _, _, .cons r rs, 0, x, h => by
    cases h
    exact ⟨_, rfl, r⟩
  | _, _, .cons r rs, i + 1, x, h => pget2 rs (i := i) h
theorem ShAt.keep {H H' : Hp} (k : Keep H H') : ∀ {l : Nat} {v : V} {s : Sh l}, ShAt H l v s → ShAt H' l v s
  | 0, _, _, h => h
  | l + 1, _, _, h => by
    obtain ⟨a, xs, rfl, h1, h2⟩ := h
    exact ⟨a, xs, rfl, k _ _ h1, paired_imp (fun _ _ r => ShAt.keep k r) h2⟩
/-- a pair of whole numbers -/
def PrAt (H : Hp) (x : V) (p : Int × Int) : Prop := ∃ t : Addr, x = .ref t ∧ H t = some (.tup [.int p.1, .int p.2])
theorem PrAt.keep {H H' : Hp} (k : Keep H H') {x : V} {p : Int × Int} (h : PrAt H x p) : PrAt H' x p := by
  obtain ⟨t, e, h1⟩ := h
  exact ⟨t, e, k _ _ h1⟩
end TR

/-! ### trees of pages: plain mathematics -/
namespace TR
open PySem PySem.Spec PyProof.Rows L2 HX
inductive Pg where
  | leaf (ps : List (Int × Int)) (nx : Int)
  | node (ks kids : List Int)
def lkp (D : List (Int × Pg)) (k : Int) : Option Pg := (D.find? fun q => decide (q.1 = k)).map (·.2)
theorem lkp_none {D : List (Int × Pg)} {k : Int} (h : ∀ q ∈ D, q.1 ≠ k) : lkp D k = none := by
  unfold lkp
  rw [List.find?_eq_none.mpr (fun q hq => by simpa using h q hq)]
  rfl
theorem lkp_ne {D : List (Int × Pg)} {k : Int} (h : lkp D k = none) : ∀ q ∈ D, q.1 ≠ k := by
  unfold lkp at h
  intro q hq e
  have z : (D.find? fun q => decide (q.1 = k)) = none := by
    cases c : D.find? fun q => decide (q.1 = k) with
    | none => rfl
    | some x => rw [c] at h; cases h
  have := List.find?_eq_none.mp z q hq
  exact this (decide_eq_true e)
theorem lkp_keep {D D' : List (Int × Pg)} {k : Int} {x : Pg} (h : lkp D k = some x) : lkp (D ++ D') k = some x := by
  unfold lkp at h ⊢
  rw [List.find?_append]
  cases c : D.find? fun q => decide (q.1 = k) with
  | none => rw [c] at h; cases h
  | some y => rw [c] at h; exact h
theorem lkp_end {D : List (Int × Pg)} {k : Int} {x : Pg} (h : lkp D k = none) : lkp (D ++ [(k, x)]) k = some x := by
  unfold lkp at h ⊢
  rw [List.find?_append]
  cases c : D.find? fun q => decide (q.1 = k) with
  | none =>
    simp
  | some y => rw [c] at h; cases h
def Tr : Nat → Type
  | 0 => Int × List (Int × Int)
  | l + 1 => Int × List Int × List (Tr l)
def lfT (n : Int) (ps : List (Int × Int)) : Tr 0 := (n, ps)
def ndT {l : Nat} (n : Int) (ks : List Int) (kids : List (Tr l)) : Tr (l + 1) := (n, ks, kids)
def Tr.ps (t : Tr 0) : List (Int × Int) := Prod.snd t
def Tr.keys {l : Nat} (t : Tr (l + 1)) : List Int := Prod.fst (Prod.snd t)
def Tr.kids {l : Nat} (t : Tr (l + 1)) : List (Tr l) := Prod.snd (Prod.snd t)
def num : (l : Nat) → Tr l → Int
  | 0, t => Prod.fst t
  | _ + 1, t => Prod.fst t
def nums : (l : Nat) → Tr l → List Int
  | 0, t => [num 0 t]
  | l + 1, t => num (l + 1) t :: t.kids.flatMap (nums l)
def prs : (l : Nat) → Tr l → List (Int × Int)
  | 0, t => t.ps
  | l + 1, t => t.kids.flatMap (prs l)
def shp : (l : Nat) → Tr l → Sh l
  | 0, t => t.ps.length
  | l + 1, t => t.kids.map (shp l)
def Laid (D : List (Int × Pg)) : (l : Nat) → Tr l → Prop
  | 0, t => ∃ nx, lkp D (num 0 t) = some (.leaf t.ps nx)
  | l + 1, t => lkp D (num (l + 1) t) = some (.node t.keys (t.kids.map (num l))) ∧ ∀ k ∈ t.kids, Laid D l k
theorem Laid.more {D D' : List (Int × Pg)} : ∀ {l : Nat} {t : Tr l}, Laid D l t → Laid (D ++ D') l t
  | 0, _, ⟨nx, h⟩ => ⟨nx, lkp_keep h⟩
  | _ + 1, _, ⟨h, g⟩ => ⟨lkp_keep h, fun k hk => (g k hk).more⟩
/-- keys between kids -/
def KBs {α : Type} (R : α → Int → Int → Prop) : Int → List Int → List α → Int → Prop
  | lo, [], [k], hi => R k lo hi
  | lo, a :: ks, k :: kids, hi => R k lo a ∧ KBs R a ks kids hi
  | _, _, _, _ => False
theorem KBs.snoc {α : Type} {R : α → Int → Int → Prop} {a hi : Int} {x : α} (hx : R x a hi) : ∀ {kids : List α} {ks : List Int} {lo : Int}, KBs R lo ks kids a → KBs R lo (ks ++ [a]) (kids ++ [x]) hi
  | [], ks, _, h => by cases ks <;> exact h.elim
  | [k], [], _, h => ⟨h, hx⟩
  | _ :: _ :: _, [], _, h => h.elim
  | k :: kids, b :: ks, _, h => ⟨h.1, KBs.snoc hx h.2⟩
theorem KBs.len {α : Type} {R : α → Int → Int → Prop} {hi : Int} : ∀ {kids : List α} {ks : List Int} {lo : Int}, KBs R lo ks kids hi → ks.length + 1 = kids.length
  | [], ks, _, h => by cases ks <;> exact h.elim
  | [k], [], _, h => rfl
  | _ :: _ :: _, [], _, h => h.elim
  | k :: kids, b :: ks, _, h => by
    have := KBs.len h.2
    simp only [List.length_cons]
    omega
/-- the pairs lie from lo on, below hi; keys between -/
def KeyB : (l : Nat) → Tr l → Int → Int → Prop
  | 0, t, lo, hi => ∀ q ∈ t.ps, lo ≤ q.1 ∧ q.1 < hi
  | l + 1, t, lo, hi => KBs (KeyB l) lo t.keys t.kids hi
/-- keys of nodes as they have to be -/
def KeyOk : (l : Nat) → Tr l → Prop
  | 0, _ => True
  | l + 1, t => t.keys.Pairwise (· < ·) ∧ (∀ k ∈ t.keys, 0 ≤ k ∧ k ≤ 1000000000) ∧ t.keys.length + 1 = t.kids.length ∧ ∀ k ∈ t.kids, KeyOk l k
/-- first comes the greater one -/
def Above (ps : List (Int × Int)) (x : Int) : Prop := ∀ q ∈ ps, x < q.1
def Below (ps : List (Int × Int)) (x : Int) : Prop := ∀ q ∈ ps, q.1 ≤ x
def All (lo hi : Int) (ps : List (Int × Int)) : Prop := ∀ q ∈ ps, lo ≤ q.1 ∧ q.1 < hi
theorem take_add' {α : Type} (xs : List α) (a b : Nat) : xs.take (a + b) = xs.take a ++ (xs.drop a).take b := by
  rw [List.take_add]
theorem cnt_pos {room : Nat} (hr : 3 ≤ room) : ∀ {l : Nat} {s : Sh l}, WfSh room l false s → 0 < cntS l s
  | 0, s, h => by
    have := h.1
    have e : loS room 0 false = (room + 1) / 2 := rfl
    rw [e] at this
    show 0 < s.n
    omega
  | l + 1, s, h => by
    obtain ⟨h1, h2, h3⟩ := h
    have e : loS room (l + 1) false = (room + 1) / 2 := rfl
    rw [e] at h1
    show 0 < (s.ks.map (cntS l)).sum
    cases c : s.ks with
    | nil =>
      rw [c] at h1
      simp only [List.length_nil] at h1
      omega
    | cons k ks =>
      have := cnt_pos hr (h3 k (by rw [c]; exact List.mem_cons_self ..))
      rw [List.map_cons, List.sum_cons]
      omega
theorem sum_more {α : Type} (f : α → Nat) {xs : List α} {i : Nat} {x : α} (h : xs[i]? = some x) : ((xs.take (i + 1)).map f).sum = ((xs.take i).map f).sum + f x := by
  rw [take_more h, List.map_append, List.sum_append]
  simp
theorem sum_part {α : Type} (f : α → Nat) (xs : List α) (i : Nat) : ((xs.take i).map f).sum ≤ (xs.map f).sum := by
  conv => rhs; rw [← List.take_append_drop i xs]
  rw [List.map_append, List.sum_append]
  omega
theorem sum_part1 {α : Type} (f : α → Nat) {xs : List α} {i : Nat} {x : α} (h : xs[i]? = some x) : ((xs.take i).map f).sum + f x ≤ (xs.map f).sum := by
  rw [← sum_more f h]
  exact sum_part f xs (i + 1)
theorem paired_take {α β : Type} {R : α → β → Prop} : ∀ {xs : List α} {ys : List β} (n : Nat), Paired R xs ys → Paired R (xs.take n) (ys.take n)
  | _, _, 0, _ => by rw [List.take_zero, List.take_zero]; exact .nil
  | _, _, _ + 1, .nil => .nil
  | _, _, n + 1, .cons r rs => .cons r (paired_take n rs)
theorem paired_drop {α β : Type} {R : α → β → Prop} : ∀ {xs : List α} {ys : List β} (n : Nat), Paired R xs ys → Paired R (xs.drop n) (ys.drop n)
  | _, _, 0, h => h
  | _, _, _ + 1, .nil => .nil
  | _, _, n + 1, .cons r rs => paired_drop n rs
theorem last_pick (last : Int) (qs : List (Int × Int)) (hs : qs.Pairwise fun a b => a.1 < b.1) (ha : Above qs last) : ∃ z, atI ([V.int last] ++ qs.map (fun q => V.int q.1)) (-1) = some (.int z) ∧ Below qs z ∧ last ≤ z ∧ (z = last ∨ ∃ q ∈ qs, z = q.1) := by
  rcases List.eq_nil_or_concat qs with rfl | ⟨r, q, rfl⟩
  · exact ⟨last, rfl, (fun q hq => nomatch hq), Int.le_refl _, .inl rfl⟩
  · rw [List.concat_eq_append] at hs ha ⊢
    have hm : q ∈ r ++ [q] := List.mem_append_right _ (List.mem_singleton.mpr rfl)
    refine ⟨q.1, ?_, fun y hy => ?_, Int.le_of_lt (ha q hm), .inr ⟨q, hm, rfl⟩⟩
    · refine at_last (n := r.length + 1) (by simp) ?_
      rw [List.map_append, ← List.append_assoc, List.getElem?_append_right (by simp)]
      simp
    · rcases List.mem_append.mp hy with hy | hy
      · exact Int.le_of_lt ((List.pairwise_append.mp hs).2.2 y hy q (List.mem_singleton.mpr rfl))
      · obtain rfl := List.mem_singleton.mp hy
        exact Int.le_refl _
/-- what is laid when a shape is gone through -/
structure Gen (l : Nat) (s : Sh l) (t : Tr l) (ps : List (Int × Int)) (ns : List Int) (D D' : List (Int × Pg)) (last last' : Int) : Prop where
  shape : shp l t = s
  pairs : prs l t = ps.take (cntS l s)
  number : nums l t = ns.take (pgsS l s)
  keys : (D'.map (·.1)).Perm (nums l t)
  laid : Laid (D ++ D') l t
  keyB : ∀ lo hi, All lo hi (ps.take (cntS l s)) → KeyB l t lo hi
  keyOk : KeyOk l t
  below : Below (ps.take (cntS l s)) last'
  above : Above (ps.drop (cntS l s)) last'
  le : last ≤ last'
  le9 : last' ≤ 1000000000
theorem Gen.num_head {l : Nat} {s : Sh l} {t : Tr l} {ps : List (Int × Int)} {ns : List Int} {D D' : List (Int × Pg)} {last last' : Int} (_ : Gen l s t ps ns D D' last last') : ∃ r, nums l t = num l t :: r := by
  cases l with
  | zero => exact ⟨[], rfl⟩
  | succ l => exact ⟨_, rfl⟩
/-! ### lists of whole numbers as data -/
theorem dpa_ints {K : PySem.W.Frag} {H : Hp} : ∀ ns : List Int, DpAll K H (ns.map V.int) (ns.map PyData.int)
  | [] => .nil
  | n :: ns => .cons (.int n) (dpa_ints ns)
theorem lay_ints : ∀ ns : List Int, PyData.canLayAll0 (ns.map PyData.int) = true
  | [] => by simp only [List.map_nil, PyData.canLayAll0]
  | n :: ns => by simp only [List.map_cons, PyData.canLayAll0, PyData.canLay0, lay_ints ns, Bool.and_self]
theorem deep_ints : ∀ ns : List Int, PyData.depthAll (ns.map PyData.int) = 0
  | [] => by simp only [List.map_nil, PyData.depthAll]
  | n :: ns => by simp only [List.map_cons, PyData.depthAll, PyData.depth, deep_ints ns, Nat.max_self]
theorem shaped_ints (ns : List Int) : SeqAt.shaped (.list (ns.map PyData.int)) = true := by
  unfold SeqAt.shaped
  simp only [PyData.canLay0, lay_ints ns, PyData.depth, deep_ints ns]
  decide
theorem eqv_intsA : ∀ a b : List Int, PyData.eqvAll (a.map PyData.int) (b.map PyData.int) = decide (a = b)
  | [], [] => by simp only [List.map_nil, PyData.eqvAll]; rfl
  | [], _ :: _ => by simp only [List.map_nil, List.map_cons, PyData.eqvAll]; rfl
  | _ :: _, [] => by simp only [List.map_nil, List.map_cons, PyData.eqvAll]; rfl
  | x :: a, y :: b => by
    simp only [List.map_cons, PyData.eqvAll, PyData.eqv, eqv_intsA a b]
    by_cases e : x = y
    · subst e
      simp
    · simp [e]
theorem eqv_ints (a b : List Int) : PyData.eqv (.list (a.map PyData.int)) (.list (b.map PyData.int)) = decide (a = b) := by
  simp only [PyData.eqv, eqv_intsA]
/-- the first kids -/
structure Mid (l : Nat) (s : List (Sh l)) (i : Nat) (ts : List (Tr l)) (ks : List Int) (ps : List (Int × Int)) (ns : List Int) (D D' : List (Int × Pg)) (last last' : Int) : Prop where
  shapes : ts.map (shp l) = s.take i
  pairs : ts.flatMap (prs l) = ps.take ((s.take i).map (cntS l)).sum
  number : ts.flatMap (nums l) = ns.take ((s.take i).map (pgsS l)).sum
  perm : (D'.map (·.1)).Perm (ts.flatMap (nums l))
  laid : ∀ t ∈ ts, Laid (D ++ D') l t
  kb : ∀ lo hi, i ≠ 0 → All lo hi (ps.take ((s.take i).map (cntS l)).sum) → KBs (KeyB l) lo ks ts hi
  empty : i = 0 → ks = []
  rising : ks.Pairwise (· < ·)
  range : ∀ x ∈ ks, 0 ≤ x ∧ x ≤ last'
  keyOk : ∀ t ∈ ts, KeyOk l t
  below : Below (ps.take ((s.take i).map (cntS l)).sum) last'
  above : Above (ps.drop ((s.take i).map (cntS l)).sum) last'
  le : last ≤ last'
  last0 : -1 ≤ last
  le9 : last' ≤ 1000000000
  few : ks.length ≤ i
theorem Mid.zero {l : Nat} {s : List (Sh l)} {ps : List (Int × Int)} {ns : List Int} {D : List (Int × Pg)} {last : Int} (ha : Above ps last) (h0 : -1 ≤ last) (h9 : last ≤ 1000000000) : Mid l s 0 [] [] ps ns D [] last last :=
  ⟨rfl, rfl, rfl, .nil, (fun _ h => nomatch h), (fun _ _ h => (h rfl).elim), fun _ => rfl, .nil, (fun _ h => nomatch h), (fun _ h => nomatch h), (fun _ h => nomatch h), ha, Int.le_refl _, h0, h9, Nat.le_refl _⟩
theorem Mid.step {l : Nat} {s : List (Sh l)} {i : Nat} {ts : List (Tr l)} {ks ks' : List Int} {ps : List (Int × Int)} {ns : List Int} {D D' D5 : List (Int × Pg)} {last last' last5 : Int} {k : Sh l} {t : Tr l}
    (h : Mid l s i ts ks ps ns D D' last last') (hk : s[i]? = some k)
    (hks : (i = 0 ∧ ks' = []) ∨ (i ≠ 0 ∧ ∃ a, ks' = ks ++ [a] ∧ last' < a ∧ ∀ q ∈ ps.drop ((s.take i).map (cntS l)).sum, a ≤ q.1))
    (g : Gen l k t (ps.drop ((s.take i).map (cntS l)).sum) (ns.drop ((s.take i).map (pgsS l)).sum) (D ++ D') D5 last' last5)
    (cp : 0 < cntS l k) (hm : ((s.take i).map (cntS l)).sum + cntS l k ≤ ps.length) : Mid l s (i + 1) (ts ++ [t]) ks' ps ns D (D' ++ D5) last last5 := by
  have le : last' ≤ last5 := g.le
  have ec := sum_more (cntS l) hk
  have ep := sum_more (pgsS l) hk
  have et : ps.take ((s.take (i + 1)).map (cntS l)).sum = ps.take ((s.take i).map (cntS l)).sum ++ (ps.drop ((s.take i).map (cntS l)).sum).take (cntS l k) := by rw [ec, List.take_add]
  have en : ns.take ((s.take (i + 1)).map (pgsS l)).sum = ns.take ((s.take i).map (pgsS l)).sum ++ (ns.drop ((s.take i).map (pgsS l)).sum).take (pgsS l k) := by rw [ep, List.take_add]
  have ed : ps.drop ((s.take (i + 1)).map (cntS l)).sum = (ps.drop ((s.take i).map (cntS l)).sum).drop (cntS l k) := by rw [ec, List.drop_drop]
  refine ⟨?_, ?_, ?_, ?_, ?_, ?_, ?_, ?_, ?_, ?_, ?_, ?_, Int.le_trans h.le le, h.last0, g.le9, ?_⟩
  · rw [List.map_append, h.shapes, take_more hk, ← g.shape]
    rfl
  · rw [List.flatMap_append, h.pairs, et, ← g.pairs]
    simp
  · rw [List.flatMap_append, h.number, en, ← g.number]
    simp
  · rw [List.map_append, List.flatMap_append]
    refine h.perm.append ?_
    rw [show [t].flatMap (nums l) = nums l t by simp]
    exact g.keys
  · intro u hu
    rw [← List.append_assoc]
    rcases List.mem_append.mp hu with hu | hu
    · exact (h.laid u hu).more
    · obtain rfl := List.mem_singleton.mp hu
      exact g.laid
  · intro lo hi _ hall
    rw [et] at hall
    rcases hks with ⟨e, rfl⟩ | ⟨e, a, rfl, h1, h2⟩
    · have : ts = [] := by
        have z := congrArg List.length h.shapes
        rw [List.length_map, e, List.take_zero] at z
        exact List.eq_nil_of_length_eq_zero z
      subst this
      exact g.keyB lo hi fun q hq => hall q (List.mem_append_right _ hq)
    · refine KBs.snoc (g.keyB a hi fun q hq => ⟨h2 q (List.mem_of_mem_take hq), (hall q (List.mem_append_right _ hq)).2⟩) (h.kb lo a e fun q hq => ⟨(hall q (List.mem_append_left _ hq)).1, ?_⟩)
      have := h.below q hq
      omega
  · intro e
    omega
  · rcases hks with ⟨e, rfl⟩ | ⟨e, a, rfl, h1, h2⟩
    · exact .nil
    · refine List.pairwise_append.mpr ⟨h.rising, List.pairwise_singleton _ _, fun x hx y hy => ?_⟩
      obtain rfl := List.mem_singleton.mp hy
      have := (h.range x hx).2
      omega
  · intro x hx
    rcases hks with ⟨e, rfl⟩ | ⟨e, a, rfl, h1, h2⟩
    · cases hx
    · rcases List.mem_append.mp hx with hx | hx
      · have := h.range x hx
        exact ⟨this.1, by omega⟩
      · obtain rfl := List.mem_singleton.mp hx
        have h3 := h.le
        have h4 := h.last0
        refine ⟨by omega, ?_⟩
        cases c : (ps.drop ((s.take i).map (cntS l)).sum).take (cntS l k) with
        | nil =>
          have z := congrArg List.length c
          rw [List.length_take, List.length_drop, List.length_nil] at z
          omega
        | cons q qs =>
          have hq : q ∈ (ps.drop ((s.take i).map (cntS l)).sum).take (cntS l k) := by rw [c]; exact List.mem_cons_self ..
          have z1 := h2 q (List.mem_of_mem_take hq)
          have z2 := g.below q hq
          omega
  · intro u hu
    rcases List.mem_append.mp hu with hu | hu
    · exact h.keyOk u hu
    · obtain rfl := List.mem_singleton.mp hu
      exact g.keyOk
  · rw [et]
    intro q hq
    rcases List.mem_append.mp hq with hq | hq
    · exact Int.le_trans (h.below q hq) le
    · exact g.below q hq
  · rw [ed]
    exact g.above
  · rcases hks with ⟨e, rfl⟩ | ⟨e, a, rfl, h1, h2⟩
    · exact Nat.zero_le _
    · have := h.few
      rw [List.length_append]
      show ks.length + 1 ≤ i + 1
      omega
theorem Mid.done {l : Nat} {s : Sh (l + 1)} {z : Int} {ts : List (Tr l)} {ks : List Int} {ps : List (Int × Int)} {ns : List Int} {D D' : List (Int × Pg)} {last last' : Int}
    (h : Mid l s.ks s.ks.length ts ks ps ns D D' last last') (hn : s.ks.length ≠ 0) (hall : All 0 1000000001 ps) (hz : lkp D z = none) (hz2 : z ∉ ns) :
    Gen (l + 1) s (ndT z ks ts) ps (z :: ns) D (D' ++ [(z, .node ks (ts.map (num l)))]) last last' := by
  have ec : cntS (l + 1) s = ((s.ks.take s.ks.length).map (cntS l)).sum := by rw [List.take_length]; rfl
  have ep : pgsS (l + 1) s = ((s.ks.take s.ks.length).map (pgsS l)).sum + 1 := by rw [List.take_length]; exact Nat.add_comm _ _
  have hkb : ∀ lo hi, All lo hi (ps.take (cntS (l + 1) s)) → KBs (KeyB l) lo ks ts hi := fun lo hi hl => h.kb lo hi hn (by rw [← ec]; exact hl)
  have hd' : lkp (D ++ D') z = none := lkp_none fun q hq e => by
    rcases List.mem_append.mp hq with hq | hq
    · exact lkp_ne hz q hq e
    · have m : q.1 ∈ ts.flatMap (nums l) := h.perm.mem_iff.mp (List.mem_map_of_mem hq)
      rw [h.number, e] at m
      exact hz2 (List.mem_of_mem_take m)
  refine ⟨?_, ?_, ?_, ?_, ⟨?_, ?_⟩, hkb, ⟨h.rising, fun k hk => ?_, ?_, h.keyOk⟩, ?_, ?_, h.le, h.le9⟩
  · have := h.shapes
    rw [List.take_length] at this
    exact this
  · rw [ec]
    exact h.pairs
  · rw [ep]
    show z :: ts.flatMap (nums l) = z :: ns.take _
    rw [h.number]
  · show ((D' ++ [(z, Pg.node ks (ts.map (num l)))]).map (·.1)).Perm (z :: ts.flatMap (nums l))
    rw [List.map_append]
    refine (List.perm_append_comm (l₁ := D'.map (·.1)) (l₂ := [z])).trans ?_
    exact List.Perm.cons z h.perm
  · rw [← List.append_assoc]
    exact lkp_end hd'
  · intro k hk
    rw [← List.append_assoc]
    exact (h.laid k hk).more
  · have a := h.range k hk
    have b := h.le9
    exact ⟨a.1, by omega⟩
  · exact (hkb 0 1000000001 fun q hq => hall q (List.mem_of_mem_take hq)).len
  · rw [ec]
    exact h.below
  · rw [ec]
    exact h.above
end TR

/-! ### leaves, their followers, the sorted pages -/
namespace TR
open PySem PySem.Spec PyProof.Rows L2 HX
def lvs : (l : Nat) → Tr l → List Int
  | 0, t => [num 0 t]
  | l + 1, t => t.kids.flatMap (lvs l)
theorem flatMap_sub {α β : Type} {f g : α → List β} : ∀ {xs : List α}, (∀ x ∈ xs, (f x).Sublist (g x)) → (xs.flatMap f).Sublist (xs.flatMap g)
  | [], _ => List.Sublist.refl _
  | x :: xs, h => by
    rw [List.flatMap_cons, List.flatMap_cons]
    exact (h x (List.mem_cons_self ..)).append (flatMap_sub fun y hy => h y (List.mem_cons_of_mem _ hy))
theorem lvs_sub : ∀ {l : Nat} {t : Tr l}, (lvs l t).Sublist (nums l t)
  | 0, _ => List.Sublist.refl _
  | l + 1, t => (flatMap_sub fun k _ => lvs_sub (l := l) (t := k)).trans (List.sublist_cons_self _ _)
theorem lvs_leaf {D : List (Int × Pg)} : ∀ {l : Nat} {t : Tr l}, Laid D l t → ∀ {n : Int}, n ∈ lvs l t → ∃ ps nx, lkp D n = some (.leaf ps nx)
  | 0, t, ⟨nx, h⟩, n, hn => by
    obtain rfl := List.mem_singleton.mp hn
    exact ⟨_, _, h⟩
  | l + 1, t, ⟨_, h⟩, n, hn => by
    obtain ⟨k, hk, hn⟩ := List.mem_flatMap.mp hn
    exact lvs_leaf (h k hk) hn
theorem lvs_len : ∀ {l : Nat} {t : Tr l}, (lvs l t).length ≤ (nums l t).length := lvs_sub.length_le
def setp (D : List (Int × Pg)) (k : Int) (g : Pg) : List (Int × Pg) := D.map fun q => if q.1 = k then (q.1, g) else q
theorem setp_keys (D : List (Int × Pg)) (k : Int) (g : Pg) : (setp D k g).map (·.1) = D.map (·.1) := by
  unfold setp
  rw [List.map_map]
  refine List.map_congr_left fun q _ => ?_
  show (if q.1 = k then (q.1, g) else q).1 = q.1
  split <;> rfl
theorem lkp_cons {q : Int × Pg} {D : List (Int × Pg)} {k : Int} : lkp (q :: D) k = if q.1 = k then some q.2 else lkp D k := by
  unfold lkp
  by_cases e : q.1 = k
  · rw [List.find?_cons_of_pos (by exact decide_eq_true e), if_pos e]
    rfl
  · rw [List.find?_cons_of_neg (by simpa using e), if_neg e]
theorem lkp_setp {k k' : Int} {g : Pg} : ∀ {D : List (Int × Pg)}, lkp (setp D k g) k' = if k' = k then (lkp D k).map (fun _ => g) else lkp D k'
  | [] => by
    show none = if k' = k then none else none
    split <;> rfl
  | q :: D => by
    have e : setp (q :: D) k g = (if q.1 = k then (q.1, g) else q) :: setp D k g := rfl
    rw [e, lkp_cons, lkp_setp, lkp_cons, lkp_cons]
    by_cases h : q.1 = k
    · rw [if_pos h]
      by_cases h2 : k' = k
      · rw [if_pos (show (q.1, g).1 = k' from h.trans h2.symm), if_pos h2, if_pos h]
        rfl
      · rw [if_neg (show ¬ (q.1, g).1 = k' from fun z => h2 (z.symm.trans h)), if_neg h2, if_neg h2, if_neg (fun z => h2 (z.symm.trans h))]
    · rw [if_neg h]
      by_cases h2 : k' = k
      · subst h2
        rw [if_neg h, if_pos rfl, if_pos rfl, if_neg h]
      · rw [if_neg h2, if_neg h2]
theorem lkp_setp_eq {D : List (Int × Pg)} {k : Int} {g x : Pg} (h : lkp D k = some x) : lkp (setp D k g) k = some g := by
  rw [lkp_setp, if_pos rfl, h]
  rfl
theorem lkp_setp_ne {D : List (Int × Pg)} {k k' : Int} {g : Pg} (h : k' ≠ k) : lkp (setp D k g) k' = lkp D k' := by rw [lkp_setp, if_neg h]
theorem Laid.setp {D : List (Int × Pg)} {k : Int} {ps : List (Int × Int)} {nx nx' : Int} (e : lkp D k = some (.leaf ps nx)) : ∀ {l : Nat} {t : Tr l}, Laid D l t → Laid (setp D k (.leaf ps nx')) l t
  | 0, t, ⟨m, h⟩ => by
    by_cases c : num 0 t = k
    · rw [c, e] at h
      injection h with h
      injection h with h1 h2
      exact ⟨nx', by rw [c, lkp_setp_eq e, h1]⟩
    · exact ⟨m, by rw [lkp_setp_ne c]; exact h⟩
  | l + 1, t, ⟨h, g⟩ => by
    have c : num (l + 1) t ≠ k := fun c => by
      rw [c, e] at h
      cases h
    exact ⟨by rw [lkp_setp_ne c]; exact h, fun x hx => Laid.setp e (g x hx)⟩
theorem Laid.congr {D S : List (Int × Pg)} (e : ∀ k, lkp S k = lkp D k) : ∀ {l : Nat} {t : Tr l}, Laid D l t → Laid S l t
  | 0, _, ⟨nx, h⟩ => ⟨nx, (e _).trans h⟩
  | _ + 1, _, ⟨h, g⟩ => ⟨(e _).trans h, fun k hk => (g k hk).congr e⟩
theorem nodup_at {α : Type} {L : List α} (nd : L.Nodup) {i j : Nat} {x : α} (h1 : L[i]? = some x) (h2 : L[j]? = some x) : i = j := by
  obtain ⟨a1, a2⟩ := List.getElem?_eq_some_iff.mp h1
  obtain ⟨b1, b2⟩ := List.getElem?_eq_some_iff.mp h2
  have z := List.pairwise_iff_getElem.mp nd
  rcases Nat.lt_trichotomy i j with h | h | h
  · exact (z i j a1 b1 h (a2.trans b2.symm)).elim
  · exact h
  · exact (z j i b1 a1 h (b2.trans a2.symm)).elim
/-- each leaf names the next one, the last one none -/
def NextOk (D : List (Int × Pg)) (L : List Int) (i : Nat) : Prop := ∀ j n, j < i → L[j]? = some n → ∃ ps, lkp D n = some (.leaf ps ((L[j + 1]?).getD 0))
theorem foll {L : List Int} {i : Nat} (h : i < L.length) : (L.drop 1 ++ [0])[i]? = some ((L[i + 1]?).getD 0) := by
  by_cases c : i + 1 < L.length
  · rw [List.getElem?_append_left (by rw [List.length_drop]; omega), List.getElem?_drop, Nat.add_comm 1 i, List.getElem?_eq_getElem c]
    rfl
  · rw [List.getElem?_append_right (by rw [List.length_drop]; omega), List.getElem?_eq_none (l := L) (by omega), List.length_drop, show i - (L.length - 1) = 0 by omega]
    rfl
theorem NextOk.step {D : List (Int × Pg)} {L : List Int} {i : Nat} {n : Int} {ps : List (Int × Int)} {nx : Int} (h : NextOk D L i) (nd : L.Nodup) (hn : L[i]? = some n) (e : lkp D n = some (.leaf ps nx)) : NextOk (setp D n (.leaf ps ((L[i + 1]?).getD 0))) L (i + 1) := fun j m hj hm => by
  by_cases c : j = i
  · subst c
    rw [hn] at hm
    cases hm
    exact ⟨ps, lkp_setp_eq e⟩
  · have ne : m ≠ n := fun q => by
      subst q
      exact c (nodup_at nd hm hn)
    obtain ⟨qs, hq⟩ := h j m (by omega) hm
    exact ⟨qs, by rw [lkp_setp_ne ne]; exact hq⟩
theorem lkp_mem {D : List (Int × Pg)} {k : Int} {g : Pg} (h : lkp D k = some g) : (k, g) ∈ D := by
  unfold lkp at h
  cases c : D.find? fun q => decide (q.1 = k) with
  | none => rw [c] at h; cases h
  | some x =>
    rw [c] at h
    have h1 := List.mem_of_find?_eq_some c
    have h2 : x.1 = k := of_decide_eq_true (List.find?_some (p := fun q : Int × Pg => decide (q.1 = k)) c)
    have h3 : x.2 = g := Option.some.inj h
    obtain ⟨a, b⟩ := x
    subst h2 h3
    exact h1
theorem mem_lkp {D : List (Int × Pg)} (nd : (D.map (·.1)).Nodup) {k : Int} {g : Pg} (h : (k, g) ∈ D) : lkp D k = some g := by
  induction D with
  | nil => cases h
  | cons q D ih =>
    rw [lkp_cons]
    rw [List.map_cons, List.nodup_cons] at nd
    rcases List.mem_cons.mp h with h | h
    · subst h
      rw [if_pos rfl]
    · rw [if_neg (fun e => nd.1 (by rw [e]; exact List.mem_map_of_mem h))]
      exact ih nd.2 h
theorem lkp_perm {D S : List (Int × Pg)} (nd : (D.map (·.1)).Nodup) (p : S.Perm D) (k : Int) : lkp S k = lkp D k := by
  have nd2 : (S.map (·.1)).Nodup := (p.map (·.1)).nodup_iff.mpr nd
  cases c : lkp D k with
  | some g => exact mem_lkp nd2 (p.mem_iff.mpr (lkp_mem c))
  | none =>
    refine lkp_none fun q hq e => ?_
    exact lkp_ne c q (p.mem_iff.mp hq) e
theorem paired_perm {α β : Type} {R : α → β → Prop} {xs xs' : List α} (p : xs'.Perm xs) : ∀ {ys : List β}, Paired R xs ys → ∃ ys', ys'.Perm ys ∧ Paired R xs' ys' := by
  induction p with
  | nil => exact fun h => ⟨_, .refl _, h⟩
  | cons x p ih =>
    intro ys h
    cases h with
    | cons r rs =>
      obtain ⟨ys', h1, h2⟩ := ih rs
      exact ⟨_, h1.cons _, .cons r h2⟩
  | swap x y l =>
    intro ys h
    cases h with
    | cons r rs =>
      cases rs with
      | cons r2 rs => exact ⟨_, .swap _ _ _, .cons r2 (.cons r rs)⟩
  | trans p1 p2 ih1 ih2 =>
    intro ys h
    obtain ⟨y1, h1, h2⟩ := ih2 h
    obtain ⟨y2, h3, h4⟩ := ih1 h2
    exact ⟨y2, h3.trans h1, h4⟩
/-- a sound tree, its pages by their numbers -/
structure Tree (room l : Nat) (t : Tr l) (S : List (Int × Pg)) : Prop where
  r3 : 3 ≤ room
  r8 : room ≤ 8
  wf : WfSh room l true (shp l t)
  nodup : (nums l t).Nodup
  range : ∀ k ∈ nums l t, 1 ≤ k ∧ k ≤ 1000000
  perm : (S.map (·.1)).Perm (nums l t)
  sorted : S.Pairwise fun a b => a.1 < b.1
  laid : Laid S l t
  next : NextOk S (lvs l t) (lvs l t).length
  keyB : KeyB l t 0 1000000001
  keyOk : KeyOk l t
  rising : (prs l t).Pairwise fun a b => a.1 < b.1
  good : ∀ q ∈ prs l t, 0 ≤ q.1 ∧ q.1 ≤ 1000000000 ∧ 0 ≤ q.2 ∧ q.2 ≤ 1000000000
  few : (nums l t).length ≤ 1000
end TR

/-! ### more rules -/
namespace RU
open PySem PySem.Spec PyProof.Rows L2 HX RZ
section
variable {X : Cx}
def rSeq (K : PySem.W.Frag) : V → Option Int → Option Int → Hp → VK → Prop := fun x lo hi H Q => rSlL K x lo hi H Q ∨ rSlA K x lo hi H Q
theorem sl_seq : SlR X (rSeq X.K) := SlR.or sl_list sl_tupA
end
theorem walk_zipT {K : PySem.W.Frag} {a b : Addr} {xs ys : List V} {n : Nat} (hn : n = min xs.length ys.length) : Walk (ItzT K a b) n (fun H => SqT K H a xs ∧ SqT K H b ys) (YPair (fun i => xs[i]?) (fun i => ys[i]?)) := by
  subst hn
  refine ⟨fun i _ hi q => ?_, fun _ q => ⟨xs, ys, q.1, q.2, by omega⟩, fun i H v H' _ q y => ?_⟩
  · have h1 : i < xs.length := by omega
    have h2 : i < ys.length := by omega
    exact ⟨xs, ys, xs[i], ys[i], q.1, q.2, by simp [h1], by simp [h2]⟩
  · obtain ⟨T, x, z, h1, h2, h3, h4, h5⟩ := y
    exact ⟨T, x, z, h1, h2, h3, h4 xs q.1, h5 ys q.2⟩
end RU
/-! ### zip of three tuples -/
namespace RU
open PySem PySem.Spec PyProof.Rows L2 HX RZ
def ItzT3 (K : PySem.W.Frag) (a b c : Addr) : It :=
  ⟨fun i H => ∃ (xs ys zs : List V), SqT K H a xs ∧ SqT K H b ys ∧ SqT K H c zs ∧ i < min (min xs.length ys.length) zs.length,
    fun i H v H' => ∃ T x y z, v = .ref T ∧ H T = none ∧ H' = upd H T (.tup [x, y, z]) ∧ (∀ xs, SqT K H a xs → xs[i]? = some x) ∧ (∀ ys, SqT K H b ys → ys[i]? = some y) ∧ ∀ zs, SqT K H c zs → zs[i]? = some z,
    fun i H => ∃ xs ys zs : List V, SqT K H a xs ∧ SqT K H b ys ∧ SqT K H c zs ∧ i = min (min xs.length ys.length) zs.length⟩
def Zn3 (z TI TO i1 i2 i3 a b c : Addr) (i : Nat) (h : Heap) : Prop := IsZip h z TI TO .none ∧ IsTupOf3 h TI (.ref i1) (.ref i2) (.ref i3) ∧ (∃ x y u, IsTupOf3 h TO x y u) ∧ h.IsTupleIter i1 a i ∧ h.IsTupleIter i2 b i ∧ h.IsTupleIter i3 c i
theorem turn_zip3 {P : Program} {w : World} {K : PySem.W.Frag} {elts : List Expr} {kk : Nat} {tpos : Pos} {a b c z TI TO i1 i2 i3 : Addr} (S : ZipSep3 z TI TO i1 i2 i3 [i1, a] [i2, b] [i3, c]) (na : a ≠ i1) (nb : b ≠ i2) (nc : c ≠ i3) :
    Turn P w K (.Tuple elts kk tpos) (ItzT3 K a b c) [z, TI, TO, i1, i2, i3] z (Zn3 z TI TO i1 i2 i3 a b c) where
  mem := by simp
  obj := fun i h st m hm => by
    obtain ⟨hz, hTI, ⟨x, y, u, hTO⟩, ⟨o1, e1, _, d1⟩, ⟨o2, e2, _, d2⟩, ⟨o3, e3, _, d3⟩⟩ := st
    have e' : m = z ∨ m = TI ∨ m = TO ∨ m = i1 ∨ m = i2 ∨ m = i3 := by simpa using hm
    rcases e' with q | q | q | q | q | q
    · rw [q]; exact ⟨_, hz, fun v q => nomatch q⟩
    · rw [q]; exact ⟨_, hTI, fun v q => nomatch q⟩
    · rw [q]; exact ⟨_, hTO, fun v q => nomatch q⟩
    · rw [q]; exact ⟨o1, e1, fun v q => by rw [d1] at q; cases q⟩
    · rw [q]; exact ⟨o2, e2, fun v q => by rw [d2] at q; cases q⟩
    · rw [q]; exact ⟨o3, e3, fun v q => by rw [d3] at q; cases q⟩
  keep := fun i h h' st k => by
    obtain ⟨hz, hTI, ⟨x, y, u, hTO⟩, h1, h2, h3⟩ := st
    exact ⟨k z (by simp) _ hz, k TI (by simp) _ hTI, ⟨x, y, u, k TO (by simp) _ hTO⟩, h1.at fun o q => k i1 (by simp) o q, h2.at fun o q => k i2 (by simp) o q, h3.at fun o q => k i3 (by simp) o q⟩
  item := by
    intro X hP hw hK hc i pins s σ H E I hf st hg
    subst hP hw hK
    obtain ⟨hz, hTI, hTO, h1, h2, h3⟩ := st
    obtain ⟨xs, ys, zs, hqx, hqy, hqz, hlt⟩ := hg
    obtain ⟨its, rv, p, _⟩ := I.tuple hqx
    obtain ⟨its2, rv2, p2, _⟩ := I.tuple hqy
    obtain ⟨its3, rv3, p3, _⟩ := I.tuple hqz
    have hh : X.A.handled = none := I.ok.hd hc
    have W := GoesN.zip3 (prog := X.prog) (w := X.w) (A := X.A) (elts := elts) (x1 := kk) (pos := tpos) S (Draws.tuple (A := X.A.in1) hh i1 a na its.toArray) (Draws.tuple (A := X.A.in1) hh i2 b nb its2.toArray) (Draws.tuple (A := X.A.in1) hh i3 c nc its3.toArray)
    have l1 := rv.length
    have l2 := rv2.length
    have l3 := rv3.length
    refine W.goes i s (fun u s2 => ∃ x H', Inv X pins σ H' s2 ∧ RelV x u ∧ (ItzT3 X.K a b c).yld i H x H' ∧ Zn3 z TI TO i1 i2 i3 a b c (i + 1) s2.heap ∧ ∀ b ∈ [z, TI, TO, i1, i2, i3], H' b = none) E (by simp only [List.size_toArray]; omega) ⟨hz, hTI, hTO, ⟨h1, p⟩, ⟨h2, p2⟩, ⟨h3, p3⟩⟩ fun v h' tk hY st' hk htk => ?_
    obtain ⟨T, u1, u2, u3, rfl, hT, e1, e2, e3, hTt⟩ := hY
    have hx : xs[i]? = some (xs[i]'(by omega)) := List.getElem?_eq_getElem (by omega)
    have hy : ys[i]? = some (ys[i]'(by omega)) := List.getElem?_eq_getElem (by omega)
    have hw' : zs[i]? = some (zs[i]'(by omega)) := List.getElem?_eq_getElem (by omega)
    obtain ⟨v1, hu1, r1⟩ := rv.get hx
    obtain ⟨v2, hu2, r2⟩ := rv2.get hy
    obtain ⟨v3, hu3, r3⟩ := rv3.get hw'
    have q1 : v1 = u1 := by
      have : its.toArray[i]? = some v1 := by simpa using hu1
      rw [this] at e1
      exact Option.some.inj e1
    have q2 : v2 = u2 := by
      have : its2.toArray[i]? = some v2 := by simpa using hu2
      rw [this] at e2
      exact Option.some.inj e2
    have q3 : v3 = u3 := by
      have : its3.toArray[i]? = some v3 := by simpa using hu3
      rw [this] at e3
      exact Option.some.inj e3
    subst q1 q2 q3
    have new : ObjOk X.prog X.w (upd H T (.tup [xs[i]'(by omega), ys[i]'(by omega), zs[i]'(by omega)])) h' T (.tup [xs[i]'(by omega), ys[i]'(by omega), zs[i]'(by omega)]) := ⟨by show 3 ≤ sizeLine; decide, [v1, v2, v3], .cons r1 (.cons r2 (.cons r3 .nil)), hTt⟩
    have hf' : ∀ m ∈ [z, TO, i1, i2, i3], FpOk X pins H m := fun m hm => hf m (by
      have e' : m = z ∨ m = TO ∨ m = i1 ∨ m = i2 ∨ m = i3 := by simpa using hm
      rcases e' with q | q | q | q | q <;> simp [q])
    have I1 := I.turnedNew (t' := tk) (ch := [z, TO, i1, i2, i3]) hk hf' hT new
    refine ⟨.ref T, _, I1, rfl, ⟨T, _, _, _, rfl, I.hok.fresh hT, rfl, fun l hl => by rw [I.tuple_inj hl hqx]; exact hx, fun l hl => by rw [I.tuple_inj hl hqy]; exact hy, fun l hl => by rw [I.tuple_inj hl hqz]; exact hw'⟩, ⟨st'.1, st'.2.1, st'.2.2.1, st'.2.2.2.1.1, st'.2.2.2.2.1.1, st'.2.2.2.2.2.1⟩, fun m hm => ?_⟩
    have e' : m = z ∨ m = TI ∨ m = TO ∨ m = i1 ∨ m = i2 ∨ m = i3 := by simpa using hm
    have hlt2 : m < s.heap.objs.size := by
      obtain ⟨x, y, u, hTO⟩ := hTO
      rcases e' with q | q | q | q | q | q
      · rw [q]; exact Heap.lt_size hz
      · rw [q]; exact Heap.lt_size hTI
      · rw [q]; exact Heap.lt_size hTO
      · rw [q]; obtain ⟨_, e1, _⟩ := h1; exact Heap.lt_size e1
      · rw [q]; obtain ⟨_, e2, _⟩ := h2; exact Heap.lt_size e2
      · rw [q]; obtain ⟨_, e3, _⟩ := h3; exact Heap.lt_size e3
    rw [upd_ne (Nat.ne_of_lt (Nat.lt_of_lt_of_le hlt2 hT))]
    exact (hf m hm).1
  done := by
    intro X hP hw hK hc i pins s σ H E I hf st hg
    subst hP hw hK
    obtain ⟨hz, hTI, hTO, h1, h2, h3⟩ := st
    obtain ⟨xs, ys, zs, hqx, hqy, hqz, hend⟩ := hg
    obtain ⟨its, rv, p, _⟩ := I.tuple hqx
    obtain ⟨its2, rv2, p2, _⟩ := I.tuple hqy
    obtain ⟨its3, rv3, p3, _⟩ := I.tuple hqz
    have hh : X.A.handled = none := I.ok.hd hc
    have W := GoesN.zip3 (prog := X.prog) (w := X.w) (A := X.A) (elts := elts) (x1 := kk) (pos := tpos) S (Draws.tuple (A := X.A.in1) hh i1 a na its.toArray) (Draws.tuple (A := X.A.in1) hh i2 b nb its2.toArray) (Draws.tuple (A := X.A.in1) hh i3 c nc its3.toArray)
    have l1 := rv.length
    have l2 := rv2.length
    have l3 := rv3.length
    have en : i = min (min its.toArray.size its2.toArray.size) its3.toArray.size := by simp only [List.size_toArray]; omega
    subst en
    have hf' : ∀ m ∈ [z, TO, i1, i2, i3], FpOk X pins H m := fun m hm => hf m (by
      have e' : m = z ∨ m = TO ∨ m = i1 ∨ m = i2 ∨ m = i3 := by simpa using hm
      rcases e' with q | q | q | q | q <;> simp [q])
    exact W.stops s (fun s1 => Inv X pins σ H s1) E ⟨hz, hTI, hTO, ⟨h1, p⟩, ⟨h2, p2⟩, ⟨h3, p3⟩⟩ fun h' tk hk htk => I.turnedL (t' := tk) (ch := [z, TO, i1, i2, i3]) hk hf'
  self := fun A i s Q E st h => wpAny_pyIter_zip st.1 h
def iZip3 (K : PySem.W.Frag) (ta : TA) : TI := fun σ H R => ta σ H fun vs H1 => ∃ a b c xs ys zs, vs = [.ref a, .ref b, .ref c] ∧ SqT K H1 a xs ∧ SqT K H1 b ys ∧ SqT K H1 c zs ∧ R (ItzT3 K a b c) H1
theorem pi_zip3 {X : Cx} {e e2 e3 : Expr} {ta : TA} {p pos tpos : Pos} {elts : List Expr} {kk : Nat} (hg : Gl X "zip") (hm : X.mg "zip" = none) (ha : PA X [e, e2, e3] ta)
    (hs : starEach [e, e2, e3] X.env = (false, eval e X.env) :: starEach [e2, e3] X.env := by rfl) (hpl : (backTo pos (starEach [e2, e3] X.env)).any (·.1) = false := by rfl) :
    PI X (.Tuple elts kk tpos) (.Call (.Name "zip" p) [e, e2, e3] [] pos) (iZip3 X.K ta) := by
  refine ⟨fun pins s σ H R I h => ?_⟩
  refine Call_ (ld_blt I hg hm PyProof.Rows.boot_zip (PyProof.Rows.callWith_type1 (thn (ha.run pos pins s σ H _ I h) fun us s1 ⟨vs, H1, I1, r1, q1⟩ => ?_) hs hpl))
  obtain ⟨a, b, c, xs, ys, zs, ex, hqx, hqy, hqz, q⟩ := q1
  subst ex
  cases r1 with
  | cons r rr =>
    cases rr with
    | cons r' rr =>
      cases rr with
      | cons r'' rr =>
        cases rr
        cases r
        cases r'
        cases r''
        have fresh6 : ∀ m, m ∈ [s1.heap.objs.size + 5, s1.heap.objs.size + 3, s1.heap.objs.size + 4, s1.heap.objs.size, s1.heap.objs.size + 1, s1.heap.objs.size + 2] → FpOk X pins H1 m := fun m hcm => by
          have e' : m = s1.heap.objs.size + 5 ∨ m = s1.heap.objs.size + 3 ∨ m = s1.heap.objs.size + 4 ∨ m = s1.heap.objs.size ∨ m = s1.heap.objs.size + 1 ∨ m = s1.heap.objs.size + 2 := by simpa using hcm
          have hle : s1.heap.objs.size ≤ m := by
            rcases e' with z | z | z | z | z | z
            · rw [z]; exact Nat.le_add_right _ _
            · rw [z]; exact Nat.le_add_right _ _
            · rw [z]; exact Nat.le_add_right _ _
            · rw [z]; exact Nat.le_refl _
            · rw [z]; exact Nat.le_add_right _ _
            · rw [z]; exact Nat.le_add_right _ _
          exact I1.fpOk hle (I1.hok.fresh hle)
        obtain ⟨its, rv, p1, _⟩ := I1.tuple hqx
        obtain ⟨its2, rv2, p2, _⟩ := I1.tuple hqy
        obtain ⟨its3, rv3, p3, _⟩ := I1.tuple hqz
        obtain ⟨o1, ho1, _⟩ := id p1
        obtain ⟨o2, ho2, _⟩ := id p2
        obtain ⟨o3, ho3, _⟩ := id p3
        have la := Heap.lt_size ho1
        have lb := Heap.lt_size ho2
        have lc := Heap.lt_size ho3
        refine zip_begins3 (begins_tuple a its.toArray) (begins_tuple b its2.toArray) (begins_tuple c its3.toArray) p1 p2 p3 fun h' hz hTI hTO h1 h2 h3 hsz hk => wpAny_pyIter_zip hz ?_
        have I2 : Inv X pins σ H1 { s1 with heap := h' } := I1.kept (t' := s1.toks) hk
        have S : ZipSep3 (s1.heap.objs.size + 5) (s1.heap.objs.size + 3) (s1.heap.objs.size + 4) s1.heap.objs.size (s1.heap.objs.size + 1) (s1.heap.objs.size + 2) [s1.heap.objs.size, a] [s1.heap.objs.size + 1, b] [s1.heap.objs.size + 2, c] :=
          zip_sep3 (fun m hm => by rw [List.mem_singleton.mp hm]; exact la) (fun m hm => by rw [List.mem_singleton.mp hm]; exact lb) (fun m hm => by rw [List.mem_singleton.mp hm]; exact lc)
        exact ⟨s1.heap.objs.size + 5, [s1.heap.objs.size + 5, s1.heap.objs.size + 3, s1.heap.objs.size + 4, s1.heap.objs.size, s1.heap.objs.size + 1, s1.heap.objs.size + 2], _, _, H1, rfl, I2,
          turn_zip3 S (Nat.ne_of_lt la) (Nat.ne_of_lt (Nat.lt_of_lt_of_le lb (Nat.le_add_right _ _))) (Nat.ne_of_lt (Nat.lt_of_lt_of_le lc (Nat.le_add_right _ _))), ⟨hz, hTI, ⟨_, _, _, hTO⟩, ⟨_, h1, rfl, rfl⟩, ⟨_, h2, rfl, rfl⟩, ⟨_, h3, rfl, rfl⟩⟩, fresh6, q⟩
def YTrip (xs ys zs : Nat → Option V) : Nat → Hp → V → Hp → Prop := fun i H v H' => ∃ T x y z, v = .ref T ∧ H T = none ∧ H' = upd H T (.tup [x, y, z]) ∧ xs i = some x ∧ ys i = some y ∧ zs i = some z
theorem walk_zip3 {K : PySem.W.Frag} {a b c : Addr} {xs ys zs : List V} {n : Nat} (hn : n = min (min xs.length ys.length) zs.length) : Walk (ItzT3 K a b c) n (fun H => SqT K H a xs ∧ SqT K H b ys ∧ SqT K H c zs) (YTrip (fun i => xs[i]?) (fun i => ys[i]?) (fun i => zs[i]?)) := by
  subst hn
  refine ⟨fun i _ hi q => ⟨xs, ys, zs, q.1, q.2.1, q.2.2, hi⟩, fun _ q => ⟨xs, ys, zs, q.1, q.2.1, q.2.2, rfl⟩, fun i H v H' _ q y => ?_⟩
  obtain ⟨T, x, y1, z, h1, h2, h3, h4, h5, h6⟩ := y
  exact ⟨T, x, y1, z, h1, h2, h3, h4 xs q.1, h5 ys q.2.1, h6 zs q.2.2⟩
end RU

/-! ### dict of a tuple of pairs; fields as targets -/
namespace RU
open PySem PySem.Spec PyProof.Rows L2 HX RZ
section
variable {X : Cx} {pins : List (Addr × Obj)}
/-- tuple(xs) of a list: a new tuple, of which one knows that it has no dict -/
theorem call_tupF : CallR X (.type "tuple") (fun xs H Q => ∃ p ys, xs = [.ref p] ∧ SqL X.K H p ys ∧ ∀ l o, H l = none → o.dict = none → Q (.ref l) (upd H l (.frz o (.tup ys)))) := by
  intro pins s σ H xs us Q I r h
  obtain ⟨p, ys, rfl, hq, q⟩ := h
  obtain ⟨u, rfl, rx⟩ := vals1 r
  cases rx
  obtain ⟨its, r', pl, hz⟩ := I.list hq
  have hlen := r'.length
  refine call_tuple_list pl.isList (fun h' kp => ?_) (by simp only [List.size_toArray] <;> omega)
  have I1 : Inv X pins σ H { s with heap := h' } := I.kept (t' := s.toks) kp
  have I2 : Inv X pins σ (upd H h'.objs.size (.frz { cls := .type "tuple", data := .seq its.toArray } (.tup ys))) { s with heap := h'.push { cls := .type "tuple", data := .seq its.toArray } } :=
    I1.laid (t' := s.toks) (fun b o e => Heap.get?_push_of_some _ e) (Nat.le_refl _) (show ObjOk X.prog X.w _ _ _ (.frz _ (.tup ys)) from ⟨Heap.get?_push_size _ rfl, hz, its, r', IsTup.new _ _⟩)
  exact ⟨.ref h'.objs.size, _, I2, rfl, q _ _ (I1.hok.fresh (Nat.le_refl _)) rfl⟩
theorem pairs_of2 {pins : List (Addr × Obj)} {σ : L2.St} {H : Hp} {s : Shared} (I : Inv X pins σ H s) : ∀ {ps : List Addr} {kvs : List (Key × V)}, Paired (fun p kv => SqT X.K H p [kV kv.1, kv.2]) ps kvs →
    ∃ (prs : List (Key × Value)) (pv : List (Value × Value)), KV kvs prs ∧ prs.length = ps.length ∧ pv.length = ps.length ∧ ∀ (j : Nat) (k v : Value), pv[j]? = some (k, v) → ∃ (b : Addr) (key : Key), ps[j]? = some b ∧ IsTup s.heap b #[k, v] ∧ prs[j]? = some (key, v) ∧ keyIs key k = true
  | _, _, .nil => ⟨[], [], .nil, rfl, rfl, fun j k v e => by simp at e⟩
  | _, _, .cons (a := p) (b := kv) h t => by
    obtain ⟨prs, pv, r, hl, hl2, hp⟩ := pairs_of2 I t
    obtain ⟨its, rv, ht, _⟩ := I.tuple h
    obtain ⟨u, y, ei, ru, ry⟩ := vals2 rv
    subst ei
    refine ⟨(kv.1, y) :: prs, (u, y) :: pv, .cons ⟨rfl, ry⟩ r, by rw [List.length_cons, List.length_cons, hl], by rw [List.length_cons, List.length_cons, hl2], fun j k v e => ?_⟩
    cases j with
    | zero =>
      have e' : (u, y) = (k, v) := Option.some.inj e
      injection e' with e1 e2
      subst e1 e2
      exact ⟨p, kv.1, rfl, ht, rfl, kV_is (P := X.prog) (w := X.w) ru⟩
    | succ j =>
      obtain ⟨b, key, e1, e2, e3, e4⟩ := hp j k v (by simpa using e)
      exact ⟨b, key, by simpa using e1, e2, by simpa using e3, e4⟩
def rDictT (K : PySem.W.Frag) : List V → Hp → VK → Prop := fun xs H Q => ∃ (a : Addr) (o : Obj) (ps : List Addr) (kvs : List (Key × V)), xs = [.ref a] ∧ H a = some (.frz o (.tup (ps.map V.ref))) ∧ o.dict = none ∧ Paired (fun p kv => SqT K H p [kV kv.1, kv.2]) ps kvs ∧
  ∀ p, H p = none → Q (.ref p) (upd H p (.dK (mergeK [] kvs)))
theorem call_dictT (hcalm : X.calm = true) : CallR X (.type "dict") (rDictT X.K) := by
  intro pins s σ H xs us Q I r q
  obtain ⟨a, o, ps, kvs, ex, ha, hdo, hp, q⟩ := q
  subst ex
  obtain ⟨u, eu, rx⟩ := vals1 r
  subst eu
  cases rx
  have ok : ObjOk X.prog X.w H s.heap a (.frz o (.tup (ps.map V.ref))) := I.hok a _ ha
  obtain ⟨hg, hz, its, rv, o', hg', hc, n, hd⟩ := ok
  rw [hg] at hg'
  cases hg'
  have ei := refs_at rv
  subst ei
  obtain ⟨prs, pv, rel, hl, hl2, hpr⟩ := pairs_of2 I hp
  rw [List.length_map] at hz
  have hitems : PairItems s.heap (ps.map Value.ref).toArray (fun j => (ps[j]?).getD 0) pv := by
    refine ⟨by simp [hl2], fun j k v e => ?_⟩
    obtain ⟨b, key, e1, e2, _⟩ := hpr j k v e
    refine ⟨by simp [e1], .inl ?_⟩
    show s.heap.IsTuple (ps[j]?.getD 0) #[k, v]
    rw [e1]
    exact e2
  refine PySem.call_dict_pairs (knd := mixKind X.prog X.w) (kvs := prs) (PairArg.tuple a (ps.map Value.ref).toArray (fun j => (ps[j]?).getD 0) pv) (I.ok.hd hcalm) ⟨⟨o, n, hg, hc, hdo, hd⟩, hitems⟩ ?_ (by rw [hl2]; exact hz) fun h' tk hd' k => ?_
  · refine ⟨by rw [hl, hl2], fun i key v hr => ?_⟩
    obtain ⟨b, kk, _, _, e3, e4⟩ := hpr i key v hr
    exact ⟨kk, e3, e4⟩
  · have hm : (s.heap.objs.size == sysModules) = false := beq_eq_false_iff_ne.mpr (Nat.ne_of_gt I.big)
    have hlen : (mergeK [] kvs).length ≤ sizeLine := by
      refine Nat.le_trans (length_mergeK kvs []) ?_
      rw [List.length_nil, Nat.zero_add, rel.length, hl]
      exact hz
    exact ⟨.ref s.heap.objs.size, upd H s.heap.objs.size (.dK (mergeK [] kvs)), I.laid (t' := tk) (fun b o e => k b o (by simp) e) (Nat.le_refl _) (show ObjOk X.prog X.w _ _ _ (.dK (mergeK [] kvs)) from ⟨hlen, hm, merged [] prs, KV.merge rel .nil, hd'⟩), rfl, q _ (I.hok.fresh (Nat.le_refl _))⟩
/-- o.f, to which a part is given -/
def gFld (K : PySem.W.Frag) (ta : TE) (f : Str) : TG := fun y σ H Q => ta σ H fun x H2 => ∃ a C dx fs, x = .ref a ∧ H2 a = some (.ins C dx fs) ∧ Cls K C ∧ NoAttr K C f ∧ fs.length < 1000 ∧ Q σ (upd H2 a (.ins C dx (putF f y fs)))
theorem pg_fld {o : Expr} {f : Str} {pos' : Pos} {ta : TE} (ha : PE X o ta) : PG X (.Attribute o f pos') (gFld X.K ta f) := by
  refine ⟨fun pins s σ H v u Q I r h => ?_⟩
  rw [assign_Attribute]
  refine wpAny_bind (wpAny_holding (thn (ha.run pins s σ H _ I h) fun ov s1 ⟨x, H1, I1, r1, a, C, dx, fs, ex, ea, c, n, l, q⟩ => ?_))
  subst ex
  obtain rfl : ov = Value.ref a := r1
  refine wpAny_bind (wpAny_standAt (wpAny_bind (wpAny_holding (setattr_ok I1 ea c n l r fun s2 I2 => ?_))))
  exact wpAny_release ⟨σ, _, I2, q⟩
end
theorem putK_new {kvs : List (Key × V)} {k : Key} {v : V} (h : ∀ q ∈ kvs, q.1 ≠ k) : putK kvs k v = kvs ++ [(k, v)] := by
  unfold putK
  rw [if_neg]
  intro z
  obtain ⟨x, hx, hx2⟩ := List.any_eq_true.mp z
  exact h x hx (of_decide_eq_true hx2)
theorem mergeK_nodup : ∀ {more kvs : List (Key × V)}, ((kvs ++ more).map (·.1)).Nodup → mergeK kvs more = kvs ++ more
  | [], kvs, _ => (List.append_nil kvs).symm
  | p :: more, kvs, h => by
    have e : mergeK kvs (p :: more) = mergeK (putK kvs p.1 p.2) more := rfl
    have hn : ∀ q ∈ kvs, q.1 ≠ p.1 := fun q hq e => by
      rw [List.map_append, List.map_cons] at h
      exact (List.nodup_append.mp h).2.2 q.1 (List.mem_map_of_mem hq) p.1 (List.mem_cons_self ..) e
    rw [e, putK_new hn, mergeK_nodup (by rw [List.append_assoc]; exact h), List.append_assoc]
    rfl
/-- a walk whose body says by itself where it goes on -/
theorem out_it {J : It} {n : Nat} {G : Hp → Prop} {Y : Nat → Hp → V → Hp → Prop} (w : Walk J n G Y) {H0 : Hp} {body : V → Hp → (Hp → Prop) → Prop} {Qd : Hp → Prop} (Pv : Nat → Hp → Prop) (h0 : Pv 0 H0) (hG : ∀ i H, i ≤ n → Pv i H → G H)
    (hs : ∀ i x H H', i < n → Pv i H → Y i H x H' → body x H' (Pv (i + 1))) (hd : ∀ H, Pv n H → Qd H) :
    ∃ W : Nat → Nat → Hp → Prop, (∃ m, W 0 m H0) ∧ ∀ i m H, W i m H → (J.stop i H ∧ Qd H) ∨ (J.go i H ∧ ∃ Nx : Hp → Prop, (∀ H', Nx H' → ∃ m', m' < m ∧ W (i + 1) m' H') ∧ ∀ x H', J.yld i H x H' → body x H' Nx) := by
  refine ⟨fun i m H => m = n - i ∧ i ≤ n ∧ Pv i H, ⟨n, by simp, Nat.zero_le _, h0⟩, ?_⟩
  rintro i m H ⟨rfl, hi, p⟩
  have q := hG i H hi p
  by_cases hlt : i < n
  · refine .inr ⟨w.goes i H hlt q, Pv (i + 1), fun H' p' => ⟨n - (i + 1), by omega, rfl, hlt, p'⟩, fun x H' y => hs i x H H' hlt p (w.yields i H x H' hlt q y)⟩
  · have e : i = n := by omega
    subst e
    exact .inl ⟨w.stops H q, hd H p⟩
/-- {k: v} -/
theorem pe_dict1 {X : Cx} {k v : Expr} {tk tv : TE} {pos : Pos} (hk : PE X k tk) (hv : PE X v tv) : PE X (.Dict [some k] [v] pos) (tDisp [(tk, tv)]) :=
  pe_disp (pps_cons hk hv pps_nil) rfl rfl (by simp) (by simp)
theorem pi_tupK {X : Cx} (K : PySem.W.Frag) {tg l : Expr} {tl : TE} (hl : PE X l tl) (h : X.K = K := by rfl) : PI X tg l (iTup K tl) := by
  subst h
  exact pi_tup hl
end RU

/-! ### rows of a tree -/
namespace TR
open PySem PySem.Spec PyProof.Rows L2 HX
def kidsF {m : Nat} (F : List (Tr (m + 1))) : List (Tr m) := F.flatMap Tr.kids
def rows : (m : Nat) → List (Tr m) → List (List Int)
  | 0, F => [F.map (num 0)]
  | m + 1, F => F.map (num (m + 1)) :: rows m (kidsF F)
theorem rows_cons : ∀ {m : Nat} (F : List (Tr m)), ∃ r, rows m F = F.map (num m) :: r
  | 0, _ => ⟨[], rfl⟩
  | _ + 1, _ => ⟨_, rfl⟩
theorem flat_cons {α β : Type} (f : α → β) (g : α → List β) : ∀ F : List α, (F.flatMap fun t => f t :: g t).Perm (F.map f ++ F.flatMap g)
  | [] => .refl _
  | a :: F => by
    rw [List.flatMap_cons, List.map_cons, List.flatMap_cons, List.cons_append, List.cons_append]
    refine List.Perm.cons _ ?_
    refine ((flat_cons f g F).append_left (g a)).trans ?_
    rw [← List.append_assoc, ← List.append_assoc]
    exact (List.perm_append_comm).append_right _
theorem rows_perm : ∀ {m : Nat} (F : List (Tr m)), (rows m F).flatten.Perm (F.flatMap (nums m))
  | 0, F => by
    have e : F.flatMap (nums 0) = F.map (num 0) := by
      have : nums 0 = fun t => [num 0 t] := rfl
      rw [this]
      induction F with
      | nil => rfl
      | cons a F ih => rw [List.flatMap_cons, ih]; rfl
    rw [e]
    show ([F.map (num 0)] : List (List Int)).flatten.Perm _
    rw [List.flatten_cons, List.flatten_nil, List.append_nil]
  | m + 1, F => by
    have e : F.flatMap (nums (m + 1)) = F.flatMap (fun t => num (m + 1) t :: t.kids.flatMap (nums m)) := rfl
    rw [e]
    refine List.Perm.trans ?_ (flat_cons _ _ F).symm
    show (F.map (num (m + 1)) :: rows m (kidsF F)).flatten.Perm _
    rw [List.flatten_cons]
    refine List.Perm.append_left _ ((rows_perm (kidsF F)).trans ?_)
    unfold kidsF
    rw [List.flatMap_assoc]
theorem rows_last : ∀ {m : Nat} (F : List (Tr m)), (rows m F).getLast? = some (F.flatMap (lvs m))
  | 0, F => by
    have e : F.flatMap (lvs 0) = F.map (num 0) := by
      have : lvs 0 = fun t => [num 0 t] := rfl
      rw [this]
      induction F with
      | nil => rfl
      | cons a F ih => rw [List.flatMap_cons, ih]; rfl
    rw [e]
    rfl
  | m + 1, F => by
    obtain ⟨r, hr⟩ := rows_cons (kidsF F)
    have ih := rows_last (kidsF F)
    show (F.map (num (m + 1)) :: rows m (kidsF F)).getLast? = _
    rw [hr] at ih ⊢
    rw [List.getLast?_cons_cons, ih]
    unfold kidsF
    rw [List.flatMap_assoc]
    rfl
theorem rows_len : ∀ {m : Nat} (F : List (Tr m)), (rows m F).length = m + 1
  | 0, _ => rfl
  | m + 1, F => by
    show (rows m (kidsF F)).length + 1 = _
    rw [rows_len]
end TR

/-! ### repr of data; the promise of a def around which nothing is being shown -/
namespace RP
open PySem PySem.Spec PyProof.Rows L2 HX RZ
/-- data whose text is short: of weight n, depth k at most -/
structure Nice (d : PyData) (n k : Nat) : Prop where
  sh : d.showable = true
  nd : d.hasDict = false
  ls : d.leavesShort 13 = true
  wt : d.weight ≤ n
  dp : d.depth ≤ k
theorem Nice.le {d : PyData} {n k n' k' : Nat} (h : Nice d n k) (a : n ≤ n') (b : k ≤ k') : Nice d n' k' := ⟨h.sh, h.nd, h.ls, Nat.le_trans h.wt a, Nat.le_trans h.dp b⟩
theorem nice_int {i : Int} (h1 : -999999999999 ≤ i) (h2 : i ≤ 999999999999) : Nice (.int i) 40 0 := by
  have hl : i.natAbs.log2 < 40 := by
    by_cases z : i.natAbs = 0
    · rw [z]; decide
    · exact (Nat.log2_lt z).mpr (by omega)
  refine ⟨?_, rfl, ?_, ?_, Nat.le_refl 0⟩
  · show decide (i.natAbs.log2 < 1920) = true
    exact decide_eq_true (by omega)
  · show decide ((PyData.shown (.int i)).length ≤ 13) = true
    exact decide_eq_true (PyData.shown_int_le2 h1 h2)
  · show (if (i == 0) = true then 0 else i.natAbs.log2 + 1) ≤ 40
    split <;> omega
theorem nice_rows {n k : Nat} : ∀ {ds : List PyData}, (∀ d ∈ ds, Nice d n k) → PyData.showableAll ds = true ∧ PyData.hasDictAll ds = false ∧ PyData.leavesShortAll 13 ds = true ∧ PyData.weightAll ds ≤ ds.length * (n + 1) ∧ PyData.depthAll ds ≤ k
  | [], _ => ⟨rfl, rfl, rfl, Nat.zero_le _, Nat.zero_le _⟩
  | d :: ds, h => by
    have a := h d (List.mem_cons_self ..)
    obtain ⟨b1, b2, b3, b4, b5⟩ := nice_rows (n := n) (k := k) (ds := ds) fun x hx => h x (List.mem_cons_of_mem _ hx)
    refine ⟨?_, ?_, ?_, ?_, ?_⟩
    · show (d.showable && PyData.showableAll ds) = true
      rw [a.sh, b1]; rfl
    · show (d.hasDict || PyData.hasDictAll ds) = false
      rw [a.nd, b2]; rfl
    · show (d.leavesShort 13 && PyData.leavesShortAll 13 ds) = true
      rw [a.ls, b3]; rfl
    · show d.weight + 1 + PyData.weightAll ds ≤ (ds.length + 1) * (n + 1)
      have := a.wt
      rw [Nat.succ_mul]
      omega
    · show max d.depth (PyData.depthAll ds) ≤ k
      have := a.dp
      omega
theorem nice_tup {ds : List PyData} {n k m : Nat} (h : ∀ d ∈ ds, Nice d n k) (hm : ds.length * (n + 1) ≤ m) : Nice (.tuple ds) m (k + 1) := by
  obtain ⟨b1, b2, b3, b4, b5⟩ := nice_rows h
  exact ⟨b1, b2, b3, Nat.le_trans b4 hm, Nat.succ_le_succ b5⟩
theorem nice_lst {ds : List PyData} {n k m : Nat} (h : ∀ d ∈ ds, Nice d n k) (hm : ds.length * (n + 1) ≤ m) : Nice (.list ds) m (k + 1) := by
  obtain ⟨b1, b2, b3, b4, b5⟩ := nice_rows h
  exact ⟨b1, b2, b3, Nat.le_trans b4 hm, Nat.succ_le_succ b5⟩
structure NiceAll (ds : List PyData) (n k : Nat) : Prop where
  sh : PyData.showableAll ds = true
  nd : PyData.hasDictAll ds = false
  ls : PyData.leavesShortAll 13 ds = true
  wt : PyData.weightAll ds ≤ n
  dp : PyData.depthAll ds ≤ k
theorem NiceAll.nil {k : Nat} : NiceAll [] 0 k := ⟨rfl, rfl, rfl, Nat.le_refl 0, Nat.zero_le _⟩
theorem NiceAll.cons {d : PyData} {ds : List PyData} {a b k k' : Nat} (h : Nice d a k') (hs : NiceAll ds b k) (hk : k' ≤ k) : NiceAll (d :: ds) (a + 1 + b) k := by
  refine ⟨?_, ?_, ?_, ?_, ?_⟩
  · show (d.showable && PyData.showableAll ds) = true
    rw [h.sh, hs.sh]; rfl
  · show (d.hasDict || PyData.hasDictAll ds) = false
    rw [h.nd, hs.nd]; rfl
  · show (d.leavesShort 13 && PyData.leavesShortAll 13 ds) = true
    rw [h.ls, hs.ls]; rfl
  · show d.weight + 1 + PyData.weightAll ds ≤ a + 1 + b
    have := h.wt
    have := hs.wt
    omega
  · show max d.depth (PyData.depthAll ds) ≤ k
    have := h.dp
    have := hs.dp
    omega
theorem NiceAll.all {ds : List PyData} {n k m : Nat} (h : ∀ d ∈ ds, Nice d n k) (hm : ds.length * (n + 1) ≤ m) : NiceAll ds m k := by
  obtain ⟨b1, b2, b3, b4, b5⟩ := nice_rows h
  exact ⟨b1, b2, b3, Nat.le_trans b4 hm, b5⟩
theorem NiceAll.tup {ds : List PyData} {n k : Nat} (h : NiceAll ds n k) : Nice (.tuple ds) n (k + 1) := ⟨h.sh, h.nd, h.ls, h.wt, Nat.succ_le_succ h.dp⟩
theorem NiceAll.lst {ds : List PyData} {n k : Nat} (h : NiceAll ds n k) : Nice (.list ds) n (k + 1) := ⟨h.sh, h.nd, h.ls, h.wt, Nat.succ_le_succ h.dp⟩
/-- of thirty bits -/
theorem nice_int30 {i : Int} (h1 : -1000000000 ≤ i) (h2 : i ≤ 1000000000) : Nice (.int i) 30 0 := by
  have a := nice_int (i := i) (by omega) (by omega)
  refine ⟨a.sh, a.nd, a.ls, ?_, a.dp⟩
  show (if (i == 0) = true then 0 else i.natAbs.log2 + 1) ≤ 30
  split
  · omega
  · have hl : i.natAbs.log2 < 30 := by
      by_cases z : i.natAbs = 0
      · rw [z]; decide
      · exact (Nat.log2_lt z).mpr (by omega)
    omega
theorem nice_bool (b : Bool) : Nice (.bool b) 0 0 := ⟨rfl, rfl, rfl, Nat.le_refl 0, Nat.le_refl 0⟩
theorem nice_none : Nice .none 0 0 := ⟨rfl, rfl, rfl, Nat.le_refl 0, Nat.le_refl 0⟩
theorem dpAll_of {K : PySem.W.Frag} {H : Hp} {β : Type} {R : V → β → Prop} {f : β → PyData} (h : ∀ x y, R x y → Dp K H x (f y)) : ∀ {xs : List V} {ys : List β}, Paired R xs ys → DpAll K H xs (ys.map f)
  | _, _, .nil => .nil
  | _, _, .cons r rs => .cons (h _ _ r) (dpAll_of h rs)
theorem nice_leaf : Nice (.str "leaf") 4 0 := ⟨rfl, rfl, by decide, by decide, Nat.le_refl 0⟩
theorem nice_node : Nice (.str "node") 4 0 := ⟨rfl, rfl, by decide, by decide, Nat.le_refl 0⟩
/-- repr(x), x data that stands in the heap; nothing is being shown around -/
theorem call_reprD {X : Cx} (hg : X.A.guards = some []) (hu : X.A.units + 64 < cLine) : CallR X (.builtin "repr") (fun xs H Q => ∃ (a : Addr) (d : PyData) (n : Nat), xs = [.ref a] ∧ Dp X.K H (.ref a) d ∧ Nice d n 50 ∧ n ≤ 2 ^ 20 ∧ Q (.str d.shown) H) := by
  intro pins s σ H xs us Q I r h
  obtain ⟨a, d, n, rfl, hd, hn, hl, q⟩ := h
  obtain ⟨u, rfl, rx⟩ := vals1 r
  obtain rfl : u = Value.ref a := rx
  obtain ⟨as, rr⟩ := Dp.reads I d _ _ hd (rfl : RelV (.ref a) (.ref a))
  refine repr_of_reads' rr hn.sh (PyData.noDict_hsm hn.nd) hg (by have := hn.dp; omega) (fun _ _ e => e) (fun h' t tk hk => ⟨.str d.shown, H, I.kept (t' := tk) hk, ⟨t, rfl⟩, q⟩) (PyData.shown_fits (B := 13) (by decide) (by decide) hn.ls (Nat.le_trans hn.wt hl))
/-- as FnOk, where nothing is being shown around -/
structure FnOkG (P : Program) (w : World) (K : PySem.W.Frag) (mg : Str → Option Value) (base : Heap) (CX : CXT) (k : Nat) (f : Addr) (fd : FuncData) (ps : List Str) (sp : Sp) : Prop where
  go : ∀ (Z : Around) (envs : List Env) (c : Shared) (G : Hp) (us : List Value) (vs : List V) (Q : VK) (E : XK) (as : Args), Z.guards = some [] → Room k Z → Env0 P w K mg base Z envs c G → BindsTo c fd as (ps.zip us) → Vals vs us → sp vs G Q E →
    codeAny (model P w) Z (.call (.ref f) as) (CR CX envs P w G c Q E) c
theorem okG {P : Program} {w : World} {K : PySem.W.Frag} {mg : Str → Option Value} {base : Heap} {CX : CXT} {x qual : Str} {pr : Arguments} {bd : List Stmt} {sc : Scope} {dvs : List V} {kws : List (Str × V)} {f : Addr} {fd : FuncData} {N ps : List Str} {k : Nat} {sp : Sp}
    (F : FunD K x qual pr bd sc dvs kws f fd) (S : FnScope N ps sc) (len : ∀ vs H Q E, sp vs H Q E → vs.length = ps.length)
    (hb : ∀ (cdv : Value) (Z : Around) (envs : List Env) (c : Shared) (G : Hp) (vs : List V) (Q : VK) (E : XK), Z.guards = some [] → Room k (Z.deeper (envOfC qual sc c.heap.objs.size f cdv)) → sp vs G Q E →
      ∃ t, PSs (cxOf CX P w K mg base N qual sc f cdv Z envs c G E) bd t ∧ t { nx := fun _ G' => Q .non G', rt := Q } (start N vs) G) : FnOkG P w K mg base CX (k + 1) f fd ps sp := by
  obtain ⟨oc, od, dV, kV, doc, pm, an, cdv, ct, osl, rfl, lk, hcd, _, _⟩ := F.ex
  constructor
  intro Z envs c G us vs Q E as hz hr e0 hbt rel hsp
  have n0 := len _ _ _ _ hsp
  have kp : ∀ b o, base.get? b = some o → c.heap.get? b = some o := fun b o e => (e0.bs b o e).1
  have hK : K.In c.heap := e0.mod.kin.keeps kp
  have nl : c.heap.NoLimit := e0.mod.nolimit.keeps kp
  refine codeAny_call_function hr.depth (hK _ _ lk) rfl S.co S.gen rfl (PySem.W.codeRec_of hK hcd) (hbt _ _ _ _ ?_)
  refine wpAny_newFunctionEnv_cells S.kind ?_ ?_
  · rintro ⟨n, v⟩ hy
    rcases S.par n (List.of_mem_zip hy).1 with q | q
    · exact .inl q
    · exact .inr ⟨q, PySem.W.cellsFrom_some _ _ _ (.inl q)⟩
  intro env he c1 xx
  subst he
  refine ⟨nl.keeps xx.toInCall.keep, codeAny_func ?_⟩
  obtain ⟨t, ht, hq⟩ := hb cdv Z envs c G vs Q E hz (hr.deeper _) hsp
  refine wpAny_mono (ht.run [] c1 (start N vs) G _ (inv_start S hr.hd e0 n0 rel xx) hq) ?_ fun e c' z => z
  intro fl c' z
  match fl, z with
  | .ret u, ⟨v, σ', G', J, rv, q⟩ => exact ⟨v, G', J.os, J.bare, J.base, J.hok, rv, q⟩
  | .next, ⟨σ', G', J, q⟩ => exact ⟨V.non, G', J.os, J.bare, J.base, J.hok, rfl, q⟩
  | .brk, ⟨_, _, _, q⟩ => exact False.elim q
  | .cont, ⟨_, _, _, q⟩ => exact False.elim q
end RP

/-! ### the end of a law for a def around which nothing is being shown -/
namespace RP
open PySem PySem.Spec PyProof.Rows L2 HX RZ
theorem law_goes {P : Program} {w : World} {K : PySem.W.Frag} {mg mb : Str → Option Value} {k : Nat} {fa a : Addr} {fd : FuncData} {x : Str} {sp : Sp} {c : Shared} {us : List Value} {ns : List Int}
    (hK : K.In c.heap) (hm : c.heap.Ns mainGlobals mg) (hb : c.heap.Ns builtinsNs mb) (hbb : ∀ x : Str, x ≠ "__name__" → mb x = bootBuiltins x) (nl : c.heap.NoLimit) (ng : c.gens = #[])
    (ha : c.heap.get? a = some { cls := .type "list", data := .seq us.toArray }) (hi : IntsAre us ns) (hl : ns.length ≤ sizeLine) (hr : Room k callerA)
    (F : ∀ base : Heap, K.In base → base.Ns mainGlobals mg → FnOkG P w K mg base CX0 k fa fd [x] sp) (hbind : ∀ (s : Shared) (u : Value), BindsTo s fd ⟨[u], []⟩ [(x, u)])
    (hsp : ∀ G : Hp, Only G → SqL K G a (ns.map V.int) → sp [.ref a] G (fun v _ => v = .bl true) fun _ _ _ => False) :
    codeAny (model P w) callerA (.call (.ref fa) ⟨[.ref a], []⟩) (fun r c' => r = .ok (.ret (.bool true)) ∧ OldK c.heap c'.heap ∧ c'.os = c.os ∧ AllBare c'.gens) c := by
  have rv := vals_ints hi
  have main : ∀ G : Hp, Only G → SqL K G a (ns.map V.int) → HOk P w G c.heap → (∀ b, G b ≠ none → b = a) → (G a ≠ none → K.lookup a = none) →
      codeAny (model P w) callerA (.call (.ref fa) ⟨[.ref a], []⟩) (fun r c' => r = .ok (.ret (.bool true)) ∧ OldK c.heap c'.heap ∧ c'.os = c.os ∧ AllBare c'.gens) c := by
    intro G hO hS hok only own
    have away : ∀ {b : Addr}, b ≠ a → G b = none := fun {b} n => by
      rcases z : G b with _ | u
      · rfl
      · exact (n (only b (by rw [z]; exact nofun))).elim
    have ns0 : ∀ {b : Addr} {m : Str → Option Value}, c.heap.Ns b m → (hidT c.heap G).Ns b m := by
      rintro b m ⟨o, es, ep, e, d, r⟩
      refine ⟨o, es, ep, hidT_get e (away ?_), d, r⟩
      rintro rfl
      rw [ha] at e
      cases e
      exact nomatch d
    have kin : K.In (hidT c.heap G) := by
      intro b o e
      refine hidT_get (hK b o e) ?_
      rcases z : G b with _ | u
      · rfl
      · have n : G b ≠ none := by rw [z]; exact nofun
        have e' := only b n
        subst e'
        rw [own n] at e
        exact nomatch e
    have hM : Mod K mg (hidT c.heap G) := by
      obtain ⟨mc, q1, q2⟩ := nl
      exact ⟨kin, ns0 hm, ⟨mb, ns0 hb, hbb⟩, ⟨mc, ns0 q1, q2⟩⟩
    have e0 : Env0 P w K mg (hidT c.heap G) callerA [] c G := ⟨rfl, hM, fun b o e => of_hidT e, Nat.le_of_eq (hidT_size _ _), trivial, (fun b q => nomatch q), hok, .of_eq ng⟩
    refine codeAny_mono ((F _ kin (ns0 hm)).go callerA [] c G [.ref a] [.ref a] _ _ _ rfl hr e0 (hbind c (.ref a)) (.cons rfl .nil) (hsp G hO hS)) ?_
    intro r c' z
    match r, z with
    | .error _, z => exact False.elim (by simpa [CR, CX0] using z)
    | .ok (.ret u), ⟨v, G', os, bare, un, hok', r', q⟩ =>
      obtain rfl : v = .bl true := q
      obtain rfl : u = Value.bool true := r'
      refine ⟨rfl, OldK.of_keep ?_, os, bare⟩
      intro b o e
      rcases z : G b with _ | u
      · exact un.keep b o e z nofun nofun
      · rcases hO b with y | ⟨ob, xs, y⟩
        · rw [z] at y
          cases y
        · obtain ⟨e1, _⟩ := hok b _ y
          obtain ⟨e2, _⟩ := hok' b _ (un.frzs b ob _ y)
          rw [e] at e1
          cases e1
          exact e2
  rcases hk : K.lookup a with _ | o
  · refine main (fun b => if b = a then some (.frz { cls := .type "list", data := .seq us.toArray } (.lst (ns.map V.int))) else none) ?_ (.inl (.inr ⟨_, if_pos rfl⟩)) ?_ ?_ fun _ => hk
    · intro b
      by_cases e : b = a
      · exact .inr ⟨_, _, if_pos e⟩
      · exact .inl (if_neg e)
    · intro b u z
      by_cases e : b = a
      · have z' := (if_pos e).symm.trans z
        cases z'
        subst e
        exact ⟨ha, by rw [List.length_map]; exact hl, us, _, rv, ha⟩
      · exact nomatch (if_neg e).symm.trans z
    · intro b z
      by_cases e : b = a
      · exact e
      · exact absurd (if_neg e) z
  · have e := hK a o hk
    rw [ha] at e
    cases e
    have z := hi.length
    refine main (fun _ => none) (fun _ => .inl rfl) (.inr ⟨_, us.toArray, _, hk, rfl, rfl, rfl, ?_, by simpa using rv⟩) (fun b u z => nomatch z) (fun b z => absurd rfl z) fun z => absurd rfl z
    rw [List.size_toArray, z]
    exact hl
theorem walk_ofG {l : PySem.W.OpenLaw} {n k : Nat} {q : Program} {loose : List Str} {XP : (Str → Option Value) → Heap → Prop} {YP : World → Heap → Prop} {d : DefRec} {x : Str}
    (hn : l.most = some n) (hn2 : n ≤ sizeLine) (hdf : d.params.defaults = []) (hr : Room k callerA)
    (F : ∀ (w : World) (mg : Str → Option Value) (fa : Addr) (h : Heap), YP w h → h.Ns mainGlobals mg → mg d.name = some (.ref fa) → ∃ (K : PySem.W.Frag) (fd : FuncData) (sp : Sp), K.In h ∧ (∀ (s : Shared) (u : Value), BindsTo s fd ⟨[u], []⟩ [(x, u)]) ∧
      (∀ (G : Hp) (a : Addr) (ns : List Int), ns.length ≤ n → Only G → SqL K G a (ns.map V.int) → sp [.ref a] G (fun v _ => v = .bl true) fun _ _ _ => False) ∧ ∀ base : Heap, K.In base → base.Ns mainGlobals mg → FnOkG l.prog w K mg base CX0 k fa fd [x] sp) :
    PySem.W.WalkO q loose XP YP l.row.toRowW d [] (fun f vs => PySem.call f vs) := by
  refine Att.attach_call hn hdf ?_
  intro w c0 c mg mb fa o pm cd doc a us ns G Y ho hd hcd hmg hobj hints hlen hg
  obtain ⟨K, fd, sp, KX, hb, hsp, hF⟩ := F w mg fa _ Y G.T.g hmg
  exact law_goes KX G.T.g G.T.b G.T.builtins G.T.nolimit hg hobj hints (Nat.le_trans hlen hn2) hr hF hb (fun H hO hS => hsp H a ns hlen hO hS)
end RP

/-! ### a slice of a tuple, the whole of it too -/
namespace RU
open PySem PySem.Spec PyProof.Rows L2 HX RZ
def rSlU (K : PySem.W.Frag) : V → Option Int → Option Int → Hp → VK → Prop := fun x lo hi H Q => ∃ a xs, x = .ref a ∧ SqT K H a xs ∧ ∀ p H', Same H H' → SqT K H' p (cutV xs lo hi) → Q (.ref p) H'
theorem sl_tupU {X : Cx} : SlR X (rSlU X.K) := by
  intro pins s σ H x v vl vu lo hi sl Q I rx hs pl pu h
  obtain ⟨a, xs, rfl, hx, q⟩ := h
  refine sl_tupA pins s σ H _ v vl vu lo hi sl Q I rx hs pl pu ⟨a, xs, rfl, hx, fun ⟨w1, w2⟩ => q a H (Same.refl H) ?_, fun _ p hp => q p _ (same_new hp) (SqT.of upd_same)⟩
  unfold cutV
  rw [w1, w2, List.drop_zero, Nat.sub_zero, List.take_length]
  exact hx
end RU
/-! ### a tuple of written items, of which one knows that it has no dict -/
namespace RU
open PySem PySem.Spec PyProof.Rows L2 HX RZ
def tTupF (t : TA) : TE := fun σ H Q => t σ H fun xs H1 => xs.length ≤ sizeLine ∧ ∀ (p : Addr) (o : Obj), H1 p = none → o.dict = none → Q (.ref p) (upd H1 p (.frz o (.tup xs)))
theorem pe_tupF {X : Cx} {es : List Expr} {t : TA} {x1 : Nat} {pos : Pos} (h : PA X es t) : PE X (.Tuple es x1 pos) (tTupF t) := by
  refine ⟨fun pins s σ H Q I hq => ?_⟩
  refine wpAny_Tuple_spliced ?_
  refine thn (h.run pos pins s σ H _ I hq) ?_
  rintro us c ⟨xs, G, J, rel, few, go⟩
  refine ⟨by rw [← rel.length]; exact few, ?_⟩
  have free : G c.heap.objs.size = none := J.hok.fresh (Nat.le_refl _)
  have J2 : Inv X pins σ (upd G c.heap.objs.size (.frz { cls := .type "tuple", data := .seq us.toArray } (.tup xs))) { c with heap := c.heap.push { cls := .type "tuple", data := .seq us.toArray } } :=
    J.laid (t' := c.toks) (fun b u e => Heap.get?_push_of_some _ e) (Nat.le_refl _) (show ObjOk X.prog X.w _ _ _ (.frz _ (.tup xs)) from ⟨Heap.get?_push_size _ rfl, few, us, rel, _, Heap.get?_push_size _ rfl, rfl, _, rfl⟩)
  exact ⟨.ref c.heap.objs.size, _, J2, rfl, go _ _ free rfl⟩
end RU
/-! ### a part of a tuple, of which one knows that it has no dict -/
namespace RU
open PySem PySem.Spec PyProof.Rows L2 HX RZ
def rSlF (K : PySem.W.Frag) : V → Option Int → Option Int → Hp → VK → Prop := fun x lo hi H Q => ∃ a xs, x = .ref a ∧ SqT K H a xs ∧
  ¬ (HT.sIx xs.length 0 lo = 0 ∧ HT.sIx xs.length xs.length hi = xs.length) ∧ ∀ (p : Addr) (o : Obj), H p = none → o.dict = none → Q (.ref p) (upd H p (.frz o (.tup (cutV xs lo hi))))
theorem sl_tupF {X : Cx} : SlR X (rSlF X.K) := by
  rintro pins c σ G x v vl vu lo hi sl Q I rx hs pl pu ⟨a, xs, rfl, hx, nw, q⟩
  cases rx
  obtain ⟨its, r, ht, hz⟩ := I.tuple hx
  have e : its.toArray.size = xs.length := by
    rw [List.size_toArray]
    exact r.length.symm
  refine ⟨"tuple", _, PyProof.Rows.slot_tuple_getitem.lookup, ht.typeIs, ?_⟩
  refine HT.getItem_tuple_cut ht hs pl pu (by rw [e]; exact nw) ?_ (by rw [e]; exact hz)
  rw [e]
  have rel := (r.drop (HT.sIx xs.length 0 lo)).take (HT.sIx xs.length xs.length hi - HT.sIx xs.length 0 lo)
  let ob : Obj := { cls := .type "tuple", data := .seq (List.take (HT.sIx xs.length xs.length hi - HT.sIx xs.length 0 lo) (List.drop (HT.sIx xs.length 0 lo) its.toArray.toList)).toArray }
  refine ⟨.ref c.heap.objs.size, upd G c.heap.objs.size (.frz ob (.tup (cutV xs lo hi))), I.laid (t' := c.toks) (o := .frz ob (.tup (cutV xs lo hi))) (fun b u z => Heap.get?_push_of_some _ z) (Nat.le_refl _) ?_, rfl, q _ ob (I.hok.fresh (Nat.le_refl _)) rfl⟩
  exact ⟨Heap.get?_push_size _ rfl, Nat.le_trans (cutV_length xs lo hi) hz, _, rel, IsTup.new _ _⟩
end RU
/-! ### t.index(k), t a tuple of whole numbers -/
namespace RU
open PySem PySem.Spec PyProof.Rows L2 HX RZ
theorem mt_tindexI {X : Cx} : MtR X "tuple.index" (fun x xs H Q => ∃ (p : Addr) (ns : List Int) (k : Int), x = .ref p ∧ xs = [.int k] ∧ SqT X.K H p (ns.map V.int) ∧ k ∈ ns ∧ Q (.int (ns.idxOf k : Nat)) H) := by
  rintro pins c σ G x xs v us Q I rx rs ⟨p, ns, k, rfl, rfl, hq, hk, q⟩
  cases rx
  obtain ⟨u, rfl, t, rfl⟩ := vals1 rs
  obtain ⟨its, r, ⟨ob, ho, hc, n, hd⟩, hz⟩ := I.tuple hq
  obtain ⟨cls, dat, dd, sl⟩ := ob
  dsimp only at hc hd
  subst hc hd
  have hj := List.idxOf_lt_length_of_mem hk
  have sz : its.toArray.size = ns.length := by rw [List.size_toArray, ← r.length, List.length_map]
  have item : ∀ (m : Nat) (hm : m < its.toArray.size), ∃ y t', ns[m]? = some y ∧ its.toArray[m] = Value.int y t' := by
    intro m hm
    have hm2 : m < ns.length := by omega
    obtain ⟨w, hw, t', e⟩ := r.get (i := m) (x := .int ns[m]) (by simp [hm2])
    refine ⟨ns[m], t', List.getElem?_eq_getElem hm2, ?_⟩
    rw [← e]
    simpa using (List.getElem?_eq_some_iff.mp hw).2
  refine call_meets PySem.F.slot_tuple_index ⟨_, ho, rfl⟩ PySem.F.entry_tuple_index (PySem.F.args_tuple_index_2 _ _) (TI.tuple_indexAt p its.toArray n _ _ (.int k t) (eqU (.int k)) (ns.idxOf k) (by omega) ?_ ?_) ⟨ho, ?_, ⟨.int (ns.idxOf k : Nat), G, I.tok _, ⟨_, rfl⟩, q⟩⟩
  · obtain ⟨y, t', h1, h2⟩ := item (ns.idxOf k) (by omega)
    rw [h2]
    have e : ns[ns.idxOf k]? = some k := by
      rw [List.getElem?_eq_getElem hj]
      exact congrArg some (List.getElem_idxOf hj)
    rw [e] at h1
    cases h1
    exact beq_self_eq_true k
  · intro m hm hmj
    obtain ⟨y, t', h1, h2⟩ := item m hm
    rw [h2]
    refine beq_eq_false_iff_ne.mpr fun e => ?_
    subst e
    have z := List.not_of_lt_findIdx (p := (· == y)) (xs := ns) (i := m) hmj
    rw [(List.getElem?_eq_some_iff.mp h1).2] at z
    simp at z
  · intro w hw
    exact mem_eqAt (x := .int k) ⟨t, rfl⟩ rfl r (by rw [List.all_map]; exact List.all_eq_true.mpr fun _ _ => rfl) w (by simpa using hw)
end RU
/-! ### a method of a tuple, of which one knows that it has no dict -/
namespace RU
open PySem PySem.Spec PyProof.Rows L2 HX RZ
def tBMF (r : V → List V → Hp → VK → Prop) (to : TE) (t : TA) : TE := fun σ H Q => to σ H fun x H1 => (∃ (a : Addr) (ob : Obj) (xs : List V), x = .ref a ∧ H1 a = some (.frz ob (.tup xs)) ∧ ob.dict = none) ∧ t σ H1 fun vs H2 => r x vs H2 Q
theorem pe_bmF {X : Cx} {name id : String} {r : V → List V → Hp → VK → Prop} {o e : Expr} {es : List Expr} {apos cpos : Pos} {to : TE} {t : TA} (slot : Slot "tuple" name id) (hty : typeOf (.builtin id) = pure (.type "method_descriptor")) (hm : MtR X id r) (ho : PE X o to) (ha : PA X (e :: es) t)
    (hb : attributeBase o name X.env (eval o X.env) = eval o X.env := by rfl)
    (hf : ((backTo cpos (starEach (e :: es) X.env)).all (fun x => !x.1) && (backToKw cpos (keywordEach [] X.env)).all (fun x => x.1.isSome) && decide ((e :: es).length + ([] : List Keyword).length + (if ([] : List Keyword).isEmpty then 0 else 1) < 30)) = true := by rfl)
    (hl : (apos.endLine == cpos.line) = true := by rfl) (hs : starEach (e :: es) X.env = (false, eval e X.env) :: starEach es X.env := by rfl) (hp : (backTo cpos (starEach es X.env)).any (·.1) = false := by rfl) :
    PE X (.Call (.Attribute o name apos) (e :: es) [] cpos) (tBMF r to t) := by
  refine ⟨fun pins c σ G Q I h => ?_⟩
  refine wpAny_Call_method_late hb hf hl rfl ?_
  refine thn (ho.run pins c σ G _ I h) ?_
  rintro v c1 ⟨x, G1, J, rx, ⟨a, ob, xs, rfl, hx, hd⟩, q⟩
  cases rx
  obtain ⟨hg, _, its, _, tp⟩ := J.hok a _ hx
  refine ⟨"tuple", id, PySem.F.plainAttrs_tuple, slot, hty, tp.typeIs, fun b z => ?_, ?_⟩
  · cases z
    exact ⟨ob, hg, hd⟩
  have run := ha.run cpos pins c1 σ G1 _ J q
  rw [hs] at run ⊢
  refine Calls.callWith_builtin ?_ (Calls.evalArgs_plain ?_)
  · show (false || (backTo cpos (starEach es X.env)).any (·.1)) = false
    rw [hp]
    rfl
  · exact thn run fun us c2 ⟨vs, G2, J2, r2, q2⟩ => hm pins c2 σ G2 (.ref a) vs _ us Q J2 rfl r2 q2
end RU
/-! ### t + u, t not empty: a new tuple, of which one knows that it has no dict, or t itself -/
namespace RU
open PySem PySem.Spec PyProof.Rows L2 HX RZ
def rCatF (K : PySem.W.Frag) : R2 := fun x y H Q => ∃ a b xs ys, x = .ref a ∧ y = .ref b ∧ SqT K H a xs ∧ SqT K H b ys ∧ xs ≠ [] ∧ xs.length + ys.length ≤ sizeLine ∧
  (ys = [] → Q (.ref a) H) ∧ (ys ≠ [] → ∀ (p : Addr) (o : Obj), H p = none → o.dict = none → Q (.ref p) (upd H p (.frz o (.tup (xs ++ ys)))))
theorem op_catF {X : Cx} : OpR X (binaryOp .Add) (rCatF X.K) := by
  intro pins s σ H x y v u Q I rx ry h
  obtain ⟨a, b, xs, ys, rfl, rfl, ha, hb, hx, hz, q1, q2⟩ := h
  cases rx
  cases ry
  obtain ⟨its, r1, p1, _⟩ := I.tuple ha
  obtain ⟨its2, r2, p2, _⟩ := I.tuple hb
  refine HT.cat_tup p1 p2 (fun z => hx (r1.nil_iff.mp z)) (fun z => ⟨.ref a, H, I, rfl, q1 (r2.nil_iff.mp z)⟩) (fun z => ?_) (by rw [← r1.length, ← r2.length]; exact hz)
  let ob : Obj := { cls := .type "tuple", data := .seq (its ++ its2).toArray }
  refine ⟨.ref s.heap.objs.size, upd H s.heap.objs.size (.frz ob (.tup (xs ++ ys))), I.laid (t' := s.toks) (o := .frz ob (.tup (xs ++ ys))) (fun b ob q => Heap.get?_push_of_some _ q) (Nat.le_refl _) ?_, rfl, q2 (fun w => z (r2.nil_iff.mpr w)) _ ob (I.hok.fresh (Nat.le_refl _)) rfl⟩
  exact ⟨Heap.get?_push_size _ rfl, by rw [List.length_append]; exact hz, _, r1.append r2, IsTup.new _ _⟩
/-- a part of a tuple: a new one, told as one likes -/
theorem sl_tupV {X : Cx} : SlR X (fun x lo hi H Q => (∃ a xs, x = .ref a ∧ SqT X.K H a xs ∧ ¬ (HT.sIx xs.length 0 lo = 0 ∧ HT.sIx xs.length xs.length hi = xs.length) ∧ ∀ p, H p = none → Q (.ref p) (upd H p (.tup (cutV xs lo hi)))) ∨ rSlF X.K x lo hi H Q) := by
  rintro pins c σ G x v vl vu lo hi sl Q I rx hs pl pu (h | h)
  · exact sl_tup pins c σ G x v vl vu lo hi sl Q I rx hs pl pu h
  · exact sl_tupF pins c σ G x v vl vu lo hi sl Q I rx hs pl pu h
end RU
/-! ### sums of tuples, told alike whatever part is empty -/
namespace RU
open PySem PySem.Spec PyProof.Rows L2 HX RZ
def rCatG (K : PySem.W.Frag) : R2 := fun x y H Q => ∃ a b xs ys o, x = .ref a ∧ y = .ref b ∧ H a = some (.frz o (.tup xs)) ∧ o.dict = none ∧ SqT K H b ys ∧ xs ≠ [] ∧ xs.length + ys.length ≤ sizeLine ∧
  ∀ (p : Addr) (o : Obj) (H' : Hp), Same H H' → H' p = some (.frz o (.tup (xs ++ ys))) → o.dict = none → Q (.ref p) H'
theorem op_catG {X : Cx} : OpR X (binaryOp .Add) (rCatG X.K) := by
  intro pins s σ H x y v u Q I rx ry h
  obtain ⟨a, b, xs, ys, o, rfl, rfl, ha, ho, hb, hx, hz, q⟩ := h
  refine op_catF pins s σ H _ _ v u Q I rx ry ⟨a, b, xs, ys, rfl, rfl, .inl (.inr ⟨o, ha⟩), hb, hx, hz, fun z => q a o H (Same.refl H) (by rw [z, List.append_nil]; exact ha) ho, fun _ p o2 hp ho2 => q p o2 _ (same_new hp) upd_same ho2⟩
def rCatR (K : PySem.W.Frag) : R2 := fun x y H Q => ∃ a b xs ys, x = .ref a ∧ y = .ref b ∧ SqT K H a xs ∧ H b = some (.tup ys) ∧ ys ≠ [] ∧ xs.length + ys.length ≤ sizeLine ∧
  ∀ (p : Addr) (H' : Hp), Same H H' → H' p = some (.tup (xs ++ ys)) → Q (.ref p) H'
theorem op_catR {X : Cx} : OpR X (binaryOp .Add) (rCatR X.K) := by
  intro pins s σ H x y v u Q I rx ry h
  obtain ⟨a, b, xs, ys, rfl, rfl, ha, hb, hy, hz, q⟩ := h
  refine op_catA pins s σ H _ _ v u Q I rx ry ⟨a, b, xs, ys, rfl, rfl, ha, SqT.of hb, hz, fun z => q b H (Same.refl H) (by rw [z]; exact hb), fun _ z => (hy z).elim, fun _ _ p hp => q p _ (same_new hp) upd_same⟩
def rCatL (K : PySem.W.Frag) : R2 := fun x y H Q => ∃ a b xs ys, x = .ref a ∧ y = .ref b ∧ H a = some (.tup xs) ∧ SqT K H b ys ∧ xs ≠ [] ∧ xs.length + ys.length ≤ sizeLine ∧
  ∀ (p : Addr) (H' : Hp), Same H H' → H' p = some (.tup (xs ++ ys)) → Q (.ref p) H'
theorem op_catL {X : Cx} : OpR X (binaryOp .Add) (rCatL X.K) := by
  intro pins s σ H x y v u Q I rx ry h
  obtain ⟨a, b, xs, ys, rfl, rfl, ha, hb, hx, hz, q⟩ := h
  refine op_catA pins s σ H _ _ v u Q I rx ry ⟨a, b, xs, ys, rfl, rfl, SqT.of ha, hb, hz, fun z => (hx z).elim, fun _ z => q a H (Same.refl H) (by rw [z, List.append_nil]; exact ha), fun _ _ p hp => q p _ (same_new hp) upd_same⟩
end RU
/-! ### == and != of data, the fragment named -/
namespace RU
open PySem PySem.Spec PyProof.Rows L2 HX RZ
theorem eqDK {X : Cx} (K : PySem.W.Frag) (hu : X.A.units + 64 < cLine) (h : X.K = K := by rfl) : OpR X (compareOp .Eq) (rEqD K) := h ▸ op_eqD hu
theorem neDK {X : Cx} (K : PySem.W.Frag) (hu : X.A.units + 64 < cLine) (h : X.K = K := by rfl) : OpR X (compareOp .NotEq) (rNeD K) := h ▸ op_neD hu
end RU

namespace RP
open PySem PySem.Spec PyProof.Rows L2 RZ HX
/-- repr of a truth -/
theorem call_reprBl {X : Cx} : CallR X (.builtin "repr") (fun xs H Q => ∃ b : Bool, xs = [.bl b] ∧ Q (.str (if b then "True" else "False")) H) := by
  intro pins s σ H xs us Q I r h
  obtain ⟨b, rfl, q⟩ := h
  obtain ⟨u, rfl, rx⟩ := vals1 r
  obtain rfl : u = Value.bool b := rx
  exact PySem.P.repr_of_bool ⟨.str (if b then "True" else "False"), H, I.tok _, ⟨_, rfl⟩, q⟩
end RP

/-! ### set(xs) of a list of whole numbers -/
namespace RU
open PySem PySem.Spec PyProof.Rows L2 HX RZ
section
variable {P : Program} {w : World} {A : Around} {E : Value → Shared → Prop} {s : Shared}
/-- the object of a set just made -/
abbrev newSet (w : World) : Obj := { cls := .type "set", dict := none, data := .set #[] 0 (.fresh 0 0 (!w.params.followText "set-order")) }
set_option maxRecDepth 100000 in
set_option maxHeartbeats 3200000 in
theorem set_ints {l : Addr} {its : Array Value} (ks : List Int) {Q : Value → Shared → Prop} (nh : A.handled = none) (il : s.heap.IsList l its) (ii : IntsAre its.toList ks) (few : ks.length + 1 < scanBound)
    (go : ∀ (g : Heap) (tk c : Nat), SetR w g s.heap.objs.size (fun j => decide (j ∈ ks)) c → c ≤ ks.length → (∀ b o, s.heap.get? b = some o → g.get? b = some o) → Q (.ref s.heap.objs.size) { s with heap := g, toks := tk }) :
    wpAny (model P w) A (call (.type "set") [.ref l]) Q E s := by
  have sz : its.size = ks.length := (Array.length_toList (xs := its)).symm.trans (IntsAre.length ii)
  obtain ⟨cm, tm, mro⟩ := F.called_set.mro
  have made := F.called_set.made; have subs := F.called_set.sub
  refine wpAny_call (codeAny_of_tree ?_); show wpAny _ _ (callAny (.type "set") _) _ _ _
  refine wpAny_pure ⟨Code.quiet_builtin _ (by decide +kernel), codeAny_builtin PySem.F.entry_type_call ?_⟩; rw [Around.under_plain (weight_type_call_type "set" [.ref l] []) rfl]
  have f1 := F.called_set.notType; have f2 := F.called_set.canCreate; have f3 := F.typeCall_set_1 (.ref l)
  repeat (any_goals (first | assumption | wp_step))
  refine codeAny_mono (code_set_led1 (.ref l) (E := E) (Q₁ := fun u z => u = .ref s.heap.objs.size ∧ z = { s with heap := s.heap.push (newSet w) }) ⟨rfl, rfl⟩) fun r z hz => ?_
  match r, hz with
  | .error _, hz => exact hz
  | .ok (.ret u), hz =>
    obtain ⟨rfl, rfl⟩ := hz
    have at0 : (s.heap.push (newSet w)).get? s.heap.objs.size = some (newSet w) := Heap.get?_push_size _ rfl
    have isT : Shared.TypeIs { s with heap := s.heap.push (newSet w) } (.ref s.heap.objs.size) "set" := ⟨_, at0, rfl⟩
    have f4 := F.called_set.init.lookup; have f5 := F.called_set.init.bind (.ref s.heap.objs.size)
    repeat (any_goals (first | assumption | wp_step))
    refine codeAny_mono (codeAny_call_builtin (R := wants (fun r z => r = .none ∧ ∃ g tk c, z = { s with heap := g, toks := tk } ∧ SetR w g s.heap.objs.size (fun j => decide (j ∈ ks)) c ∧ c ≤ ks.length ∧
        (∀ b o, s.heap.get? b = some o → g.get? b = some o)) E) F.called_set.init.plain F.entry_set_init (check_set_init_1 isT ?_)) fun r2 z2 hz2 => ?_
    · obtain ⟨⟨oc, od, odat, osl⟩, hg, hc, nn, hd⟩ := il
      simp only at hc hd; subst hc; subst hd
      have hg' : (s.heap.push (newSet w)).get? l = some { cls := .type "list", dict := od, data := .seq its nn, slots := osl } := Heap.get?_push_of_some _ hg
      have u1 := F.sub_list_set; have u2 := F.sub_list_frozenset
      have u3 : (Value.type "list" == Value.type "dict") = false := by decide
      have il1 : (s.heap.push (newSet w)).IsList l its := ⟨_, hg', rfl, nn, rfl⟩
      unfold Builtin.«set.__init__» noKeywords Builtin.Frozenset.updateFrom; generalize hPy : pyIter = Py; wp_walk; subst hPy
      refine wpAny_pyIter_list il1 (wpAny_bind (wpAny_runValue ?_))
      have lt : l < s.heap.objs.size := Heap.lt_size hg
      have nh3 : A.in1.in1.in1.handled = none := by simp [nh]
      have ne : l ≠ (s.heap.push (newSet w)).objs.size := by rw [Heap.size_push]; exact Nat.ne_of_lt (Nat.lt_succ_of_lt lt)
      have nf : s.heap.objs.size ∉ [(s.heap.push (newSet w)).objs.size, l] := by
        rw [Heap.size_push]
        exact fun z => (List.mem_cons.mp z).elim (fun y => Nat.ne_of_lt (Nat.lt_succ_self _) y) fun y => Nat.ne_of_gt lt (List.mem_singleton.mp y)
      have vals : ∀ (i : Nat) (v : Value), its[i]? = some v → ∃ k t, ks[i]? = some k ∧ v = .int k t := fun i v hv => by
        have hi : i < ks.length := by rw [← sz]; exact (Array.getElem?_eq_some_iff.mp hv).1
        obtain ⟨t, e⟩ := IntsAre.int_at ii i v (by rw [Array.getElem?_toList]; exact hv)
        exact ⟨ks[i], t, List.getElem?_eq_getElem hi, by rw [e, List.getD_eq_getElem?_getD, List.getElem?_eq_getElem hi] <;> rfl⟩
      refine set_update_ints ((Walks.list nh3 _ l ne its).toS) s.heap.objs.size nf ks sz few vals (its.size - 0) 0 _ (by omega) (Nat.zero_le _) ⟨⟨_, Heap.get?_push_size _ rfl, rfl, rfl⟩, (il1.push _)⟩ ⟨0, Nat.le_refl 0, setR_new_at (Heap.get?_push_of_some _ at0)⟩ ?_
      rintro ⟨g, g2, d2, tk2, os2⟩ c mv hc2 hS
      obtain rfl : g2 = s.gens := mv.gens; obtain rfl : d2 = s.drawn := mv.drawn; obtain rfl : os2 = s.os := mv.os
      show wpAny _ _ _ _ _ _
      refine wpAny_pure ?_; show wpAny _ _ (ret Value.none) _ _ _
      rw [sz] at hc2
      refine wpAny_pure ⟨rfl, g, tk2, c, rfl, hS, hc2, fun b o e => ?_⟩
      have b0 := Heap.lt_size e
      exact mv.heap b o (by
        rw [Heap.size_push]
        exact fun z => (List.mem_cons.mp z).elim (fun y => Nat.ne_of_lt b0 y) fun y => Nat.ne_of_lt (Nat.lt_succ_of_lt b0) (List.mem_singleton.mp y)) (Heap.get?_push_of_some _ (Heap.get?_push_of_some _ e))
    · match r2, hz2 with
      | .error _, hz2 => exact hz2
      | .ok (.ret u2), hz2 =>
        obtain ⟨rfl, g, tk2, c, rfl, hS, hc2, keep⟩ := hz2
        repeat (any_goals (first | assumption | wp_step))
        exact go _ _ _ hS hc2 keep
end
section
variable {X : Cx}
def rSetL (K : PySem.W.Frag) (w : World) : List V → Hp → VK → Prop := fun xs H Q => ∃ (l : Addr) (ks : List Int), xs = [.ref l] ∧ SqL K H l (ks.map V.int) ∧ ks.length + 1 < scanBound ∧ ∀ (p : Addr) (c : Nat) (H' : Hp), c ≤ ks.length → Same H H' → H p = none → H' p = some (SetO w p (fun j => decide (j ∈ ks)) c) → Q (.ref p) H'
theorem call_setL (hc : X.calm = true) : CallR X (.type "set") (rSetL X.K X.w) := by
  intro pins s σ H xs us Q I r h
  obtain ⟨l, ks, rfl, hq, few, q⟩ := h
  rw [Vals.ref1 r]
  obtain ⟨its, rv, pl, hz⟩ := I.list hq
  refine set_ints ks (I.ok.hd hc) pl.isList (by simpa using ints_of_vals rv) few fun g tk c hS hc2 keep => ?_
  exact ⟨.ref s.heap.objs.size, _, I.laid (t' := tk) keep (Nat.le_refl _) (setO_new hS), rfl, q _ c _ hc2 (same_new (I.hok.fresh (Nat.le_refl _))) (I.hok.fresh (Nat.le_refl _)) upd_same⟩
/-- sorted(set) -/
def rSortSet (w : World) : List V → Hp → VK → Prop := fun vs H Q => ∃ (a : Addr) (S : Int → Bool) (n : Nat), vs = [V.ref a] ∧ H a = some (SetO w a S n) ∧ n < 64 ∧
  ∀ (ns : List Int) (p : Addr) (H' : Hp), ns.Pairwise (· < ·) → (∀ k : Int, k ∈ ns ↔ S k = true) → ns.length = n → Same H H' → H p = none → H' p = some (.lst (ns.map V.int)) → Q (.ref p) H'
theorem cr_sortedSetO (hc : X.calm = true) : CallR X (.builtin "sorted") (rSortSet X.w) := fun pins s σ H vs us Q I r ⟨a, S, n, e, ha, hn, q⟩ =>
  cr_sortedSet hc pins s σ H vs us Q I r ⟨a, S, n, e, ha, hn, fun ns p h1 h2 h3 hp => q ns p _ h1 h2 h3 (same_new hp) hp upd_same⟩
end
end RU
/-! ### t + u, tuples, whatever part is empty -/
namespace RU
open PySem PySem.Spec PyProof.Rows L2 HX RZ
def rCatS (K : PySem.W.Frag) : R2 := fun x y H Q => ∃ a b xs ys, x = .ref a ∧ y = .ref b ∧ SqT K H a xs ∧ SqT K H b ys ∧ xs.length + ys.length ≤ sizeLine ∧ ∀ (p : Addr) (H' : Hp), Same H H' → SqT K H' p (xs ++ ys) → Q (.ref p) H'
theorem op_catS {X : Cx} : OpR X (binaryOp .Add) (rCatS X.K) := by
  intro pins s σ H x y v u Q I rx ry h
  obtain ⟨a, b, xs, ys, rfl, rfl, ha, hb, hz, q⟩ := h
  refine op_catA pins s σ H _ _ v u Q I rx ry ⟨a, b, xs, ys, rfl, rfl, ha, hb, hz, fun z => q b H (Same.refl H) (by rw [z]; exact hb), fun _ z => q a H (Same.refl H) (by rw [z, List.append_nil]; exact ha), fun _ _ p hp => q p _ (same_new hp) (SqT.of upd_same)⟩
end RU
/-! ### new things, the heap behind not written out -/
namespace RU
open PySem PySem.Spec PyProof.Rows L2 HX RZ
def FzT (H : Hp) (a : Addr) (xs : List V) : Prop := ∃ o : Obj, H a = some (.frz o (.tup xs)) ∧ o.dict = none
section
variable {X : Cx} {es : List Expr} {t : TA} {pos : Pos}
def tTupS (t : TA) : TE := fun σ H Q => t σ H fun xs H1 => xs.length ≤ sizeLine ∧ ∀ (p : Addr) (H' : Hp), Same H1 H' → H1 p = none → FzT H' p xs → Q (.ref p) H'
theorem pe_tupS {x1 : Nat} (h : PA X es t) : PE X (.Tuple es x1 pos) (tTupS t) := by
  refine ⟨fun pins s σ H Q I hq => ?_⟩
  refine wpAny_Tuple_spliced ?_
  refine thn (h.run pos pins s σ H _ I hq) ?_
  rintro us c ⟨xs, G, J, rel, few, go⟩
  refine ⟨by rw [← rel.length]; exact few, ?_⟩
  have free : G c.heap.objs.size = none := J.hok.fresh (Nat.le_refl _)
  have J2 : Inv X pins σ (upd G c.heap.objs.size (.frz { cls := .type "tuple", data := .seq us.toArray } (.tup xs))) { c with heap := c.heap.push { cls := .type "tuple", data := .seq us.toArray } } :=
    J.laid (t' := c.toks) (fun b u e => Heap.get?_push_of_some _ e) (Nat.le_refl _) (show ObjOk X.prog X.w _ _ _ (.frz _ (.tup xs)) from ⟨Heap.get?_push_size _ rfl, few, us, rel, _, Heap.get?_push_size _ rfl, rfl, _, rfl⟩)
  exact ⟨.ref c.heap.objs.size, _, J2, rfl, go _ _ (same_new free) free ⟨_, upd_same, rfl⟩⟩
def tLstS (t : TA) : TE := fun σ H Q => t σ H fun xs H1 => xs.length ≤ sizeLine ∧ ∀ (p : Addr) (H' : Hp), Same H1 H' → H1 p = none → H' p = some (.lst xs) → Q (.ref p) H'
theorem pe_lstS (h : PA X es t) : PE X (.List es pos) (tLstS t) := by
  refine ⟨fun pins s σ H Q I hq => ?_⟩
  refine wpAny_List_spliced ?_
  refine thn (h.run pos pins s σ H _ I hq) ?_
  rintro us c ⟨xs, G, J, rel, few, go⟩
  refine ⟨by rw [← rel.length]; exact few, ?_⟩
  have free : G c.heap.objs.size = none := J.hok.fresh (Nat.le_refl _)
  exact ⟨.ref c.heap.objs.size, _, J.lnew (t' := c.toks) rel few, rfl, go _ _ (same_new free) free upd_same⟩
theorem op_catLS : OpR X (binaryOp .Add) (fun x y H Q => ∃ l b xs zs, x = .ref l ∧ y = .ref b ∧ H l = some (.lst xs) ∧ H b = some (.lst zs) ∧ xs.length + zs.length ≤ sizeLine ∧ ∀ (p : Addr) (H' : Hp), Same H H' → H p = none → H' p = some (.lst (xs ++ zs)) → Q (.ref p) H') :=
  fun pins s σ H x y v u Q I rx ry ⟨l, b, xs, zs, h1, h2, h3, h4, h5, q⟩ => op_cat pins s σ H x y v u Q I rx ry ⟨l, b, xs, zs, h1, h2, h3, h4, h5, fun p hp => q p _ (same_new hp) hp upd_same⟩
theorem sl_lstS : SlR X (fun x lo hi H Q => ∃ a xs, x = .ref a ∧ SqL X.K H a xs ∧ ∀ (p : Addr) (H' : Hp), Same H H' → H p = none → H' p = some (.lst (cutV xs lo hi)) → Q (.ref p) H') :=
  fun pins s σ H x v vl vu lo hi sl Q I rx hs pl pu ⟨a, xs, h1, h2, q⟩ => sl_list pins s σ H x v vl vu lo hi sl Q I rx hs pl pu ⟨a, xs, h1, h2, fun p hp => q p _ (same_new hp) hp upd_same⟩
theorem call_tupS : CallR X (.type "tuple") (fun xs H Q => ∃ p ys, xs = [.ref p] ∧ SqL X.K H p ys ∧ ∀ (l : Addr) (H' : Hp), Same H H' → H l = none → FzT H' l ys → Q (.ref l) H') :=
  fun pins s σ H xs us Q I r ⟨p, ys, h1, h2, q⟩ => call_tupF pins s σ H xs us Q I r ⟨p, ys, h1, h2, fun l o hl ho => q l _ (same_new hl) hl ⟨o, upd_same, ho⟩⟩
theorem call_lstS : CallR X (.type "list") (fun xs H Q => ∃ p ys, xs = [.ref p] ∧ (SqL X.K H p ys ∨ SqT X.K H p ys) ∧ ∀ (l : Addr) (H' : Hp), Same H H' → H l = none → H' l = some (.lst ys) → Q (.ref l) H') :=
  fun pins s σ H xs us Q I r ⟨p, ys, h1, h2, q⟩ => call_list_of pins s σ H xs us Q I r ⟨p, ys, h1, h2, fun l hl => q l _ (same_new hl) hl upd_same⟩
theorem call_dictS (hcalm : X.calm = true) : CallR X (.type "dict") (fun xs H Q => ∃ (a : Addr) (o : Obj) (ps : List Addr) (kvs : List (Key × V)), xs = [.ref a] ∧ H a = some (.frz o (.tup (ps.map V.ref))) ∧ o.dict = none ∧ Paired (fun p kv => SqT X.K H p [kV kv.1, kv.2]) ps kvs ∧
    ∀ (p : Addr) (H' : Hp), Same H H' → H p = none → H' p = some (.dK (mergeK [] kvs)) → Q (.ref p) H') :=
  fun pins s σ H xs us Q I r ⟨a, o, ps, kvs, h1, h2, h3, h4, q⟩ => call_dictT hcalm pins s σ H xs us Q I r ⟨a, o, ps, kvs, h1, h2, h3, h4, fun p hp => q p _ (same_new hp) hp upd_same⟩
end
end RU

/-! ### a call of a def that wants to know that nothing is being shown -/
namespace RP
open PySem PySem.Spec PyProof.Rows L2 HX RZ
section
variable {X : Cx} {CX : CXT} {k : Nat} {f : Addr} {fd : FuncData} {ps : List Str} {sp : Sp} {dvs : List V} {ds : List Value} {E : XK} {x : Str} {e : Expr} {es : List Expr} {t : TA} {p pos : Pos}
theorem pe_callG (F : FnOkG X.prog X.w X.K X.mg X.base CX k f fd ps sp) (len : ∀ vs H Q E, sp vs H Q E → vs.length = ps.length) (gd : X.A.guards = some []) (hr : Room k X.A) (hg : Gl X x) (hm : X.mg x = some (.ref f)) (hk : PySem.W.keepIn X.K (.ref f) = true) (hb : Binds X.K fd ps ds) (hd : Vals dvs ds) (hx : Passes CX X E)
    (ha : PA X (e :: es) t) (hdb : (x == ("__debug__" : Str)) = false := by decide) (he : starEach (e :: es) X.env = (false, eval e X.env) :: starEach es X.env := by rfl) (hpl : (backTo pos (starEach es X.env)).any (·.1) = false := by rfl) :
    PE X (.Call (.Name x p) (e :: es) [] pos) (tCall sp dvs E t) := by
  refine ⟨fun pins s σ H Q I h => wpAny_Call_Name_kw (ld_glob I hg hm ?_ hdb)⟩
  refine PySem.W.callWith_K (h₀ := X.base) I.ok.mod.kin hk (thn (ha.run pos pins s σ H _ I h) fun us c ⟨vs, G, J, r, q⟩ => ⟨J.kIn, ?_⟩) he hpl
  have rr : Vals (vs ++ dvs) (us ++ ds) := r.append hd
  have hl : (us ++ ds).length = ps.length := by rw [← rr.length]; exact len _ _ _ _ q
  refine wpAny_call (codeAny_mono (F.go X.A X.stack c G (us ++ ds) (vs ++ dvs) Q E ⟨us, []⟩ gd hr J.env0 (hb c us J.kIn hl) rr q) fun r c' z => ?_)
  match r, z with
  | .error e, z => exact hx pins σ G c e c' J z
  | .ok (.ret u), z => exact J.after z
theorem kw_only {n : Nat} {ks : List Str} {kws : List Keyword} {tk : TA} {g : List Value → List Value → List Value} {gV : List V → List V → List V} (F : FnOk X.prog X.w X.K X.mg X.base CX k f fd ps sp) (hr : Room k X.A) (hg : Gl X x) (hm : X.mg x = some (.ref f)) (hk : PySem.W.keepIn X.K (.ref f) = true) (hb : KBn X.K fd ps n ks g gV) (hx : Passes CX X E)
    (hkw : PK X kws tk) (hall : (backToKw pos (keywordEach kws X.env)).all (·.1.isSome) = true := by rfl) (hks : (backToKw pos (keywordEach kws X.env)).filterMap (·.1) = ks := by rfl) (hdb : (x == ("__debug__" : Str)) = false := by decide)
    (hpl : ((backTo pos (starEach [] X.env)).any (·.1) || (backToKw pos (keywordEach kws X.env)).any (·.1.isNone)) = false := by rfl) :
    PE X (.Call (.Name x p) [] kws pos) (tCallN n ks.length sp gV E tNil tk) := by
  refine ⟨fun pins s σ H Q I h => wpAny_Call_Name_kw (ld_glob I hg hm ?_ hdb)⟩
  refine PySem.W.callWith_KW0 (h₀ := X.base) I.ok.mod.kin hk hall ?_ hpl
  refine thn (hkw.run pos pins s σ H _ I h) fun ws c ⟨zs, G, J, rz, l1, l2, q⟩ => ⟨J.kIn, ?_⟩
  rw [hks]
  exact run_fnN (us := []) F hr hb hx J .nil rz l1 l2 q
end
theorem pi_lstK {X : Cx} (K : PySem.W.Frag) {tg l : Expr} {tl : TE} (hl : PE X l tl) (h : X.K = K := by rfl) : PI X tg l (iList K tl) := by
  subst h
  exact pi_list hl
/-- a walk over one thing or another -/
theorem pi_or {X : Cx} {tg l : Expr} {t1 t2 : TI} (h1 : PI X tg l t1) (h2 : PI X tg l t2) : PI X tg l (fun σ H R => t1 σ H R ∨ t2 σ H R) :=
  ⟨fun pins s σ H R I h => h.elim (h1.run pins s σ H R I) (h2.run pins s σ H R I)⟩
theorem pi_seq {X : Cx} {tg l : Expr} {tl : TE} (hl : PE X l tl) : PI X tg l (fun σ H R => iList X.K tl σ H R ∨ iTup X.K tl σ H R) := pi_or (pi_list hl) (pi_tup hl)
end RP

/-! ### x == a text, x any thing that is tracked, a dict too -/
namespace EQT
open PySem PySem.Spec PyProof.Rows L2 PySem.SeqAt
theorem str_eq_declines_any (b : Str) (u : Tok) (l : Addr) (o : Obj) (hc : o.cls = .type "dict") (es : Array DictEntry) (n : Nat) (hd : o.data = .dict es n) :
    Meets (Builtin.«str.__eq__» ⟨[.str b u, .ref l], []⟩) (fun _ R s => s.heap.get? l = some o ∧ R (.ok (.ret .notImplemented)) s) := by
  obtain ⟨cls, dd, data, sl⟩ := o
  simp only at hc hd
  subst hc hd
  exact .of_wp fun prog w A R s h => by obtain ⟨hp, g, d, tk, os⟩ := s; obtain ⟨hl, h⟩ := h; wp_walk using wpAny_loadPart' hl, wpAny_load hl; exact ⟨_, rfl, h⟩
section
variable {A : Around} {s : Shared}
theorem dict_declines {prog : Program} {w : World} {E : Value → Shared → Prop} {l : Addr} (b : Str) (u : Tok) (hl : s.TypeIs (.ref l) "dict") (F1 : Slot "dict" (cmpInfo .Eq).2.1 "dict.__eq__" ∨ True) {Q : Value → Shared → Prop} (hq : Q .notImplemented s) : wpAny (model prog w) A (call (.builtin "dict.__eq__") [.ref l, .str b u]) Q E s := by
  refine wpAny_call_entry F.slot_dict_eq hl F.entry_dict_eq ?_ (F.args_dict_eq_2 _ _)
  show wpAny _ _ (Builtin.Dict.dictSlotArgs "__eq__" ⟨[.ref l, .str b u], []⟩ >>= _) _ _ s
  refine wpAny_bind ?_
  unfold Builtin.Dict.dictSlotArgs
  refine wpAny_bind (wpAny_notOrdered_dict hl ?_)
  show wpAny _ _ (pure (Value.ref l, Value.str b u)) _ _ s
  refine wpAny_pure ?_
  refine wpAny_bind (wpAny_isInstance (T := "str") (U := "dict") (typeIs_str s b u) F.sub_str_dict ?_)
  simp only [Bool.not_false, if_true]
  exact wpAny_bind (wpAny_rule (wpAny_pure ⟨_, rfl, hq⟩))
theorem RcAt.dict_str {l : Addr} (b : Str) (u : Tok) (hlo : ∃ o es n, s.heap.get? l = some o ∧ o.cls = .type "dict" ∧ o.data = .dict es n) (hu : A.units < cLine) : RcAt A s (.ref l) (.str b u) false := fun prog w E Q h => by
  obtain ⟨o, es, n, ho, hc, hd⟩ := id hlo
  have hl : s.TypeIs (.ref l) "dict" := ⟨o, ho, hc⟩
  exact rc_eq_decline_or (k := false) hl (typeIs_str s b u) (by decide) F.sub_str_dict F.slot_dict_eq F.slot_str_eq_refl
    (fun _ hq => dict_declines b u hl (.inr trivial) hq)
    (fun _ hq => call_meets F.slot_str_eq_refl (typeIs_str s b u) F.entry_str_eq (F.args_str_eq_2 _ _) (str_eq_declines_any b u l o hc es n hd) ⟨ho, hq⟩)
    (fun _ hq => wpAny_of_eq (rfl : isSame (.ref l) (.str b u) = pure false) hq) (.inr hu) h
theorem RcAt.str_dict {l : Addr} (b : Str) (u : Tok) (hlo : ∃ o es n, s.heap.get? l = some o ∧ o.cls = .type "dict" ∧ o.data = .dict es n) (hu : A.units < cLine) : RcAt A s (.str b u) (.ref l) false := fun prog w E Q h => by
  obtain ⟨o, es, n, ho, hc, hd⟩ := id hlo
  have hl : s.TypeIs (.ref l) "dict" := ⟨o, ho, hc⟩
  exact rc_eq_decline_or (k := false) (typeIs_str s b u) hl (by decide) F.sub_dict_str F.slot_str_eq F.slot_dict_eq_refl
    (fun _ hq => call_meets F.slot_str_eq (typeIs_str s b u) F.entry_str_eq (F.args_str_eq_2 _ _) (str_eq_declines_any b u l o hc es n hd) ⟨ho, hq⟩)
    (fun _ hq => dict_declines b u hl (.inr trivial) hq)
    (fun _ hq => wpAny_of_eq (rfl : isSame (.str b u) (.ref l) = pure false) hq) (.inr hu) h
theorem EqAt.str_dict {l : Addr} (b : Str) (u : Tok) (hlo : ∃ o es n, s.heap.get? l = some o ∧ o.cls = .type "dict" ∧ o.data = .dict es n) (hu : A.units < cLine) : EqAt A s (.str b u) (.ref l) false := fun prog w E Q h => by
  unfold eqBool
  refine wpAny_holding ?_
  refine wpAny_ite_split (fun hab => absurd (eq_of_beq hab) nofun) (fun _ => ?_)
  exact wpAny_bind (RcAt.str_dict b u hlo hu prog w E _ (wpAny_truthy_bool h))
end
/-- any thing that is tracked: none, a number, a truth, a text, a list, a tuple, a dict -/
def Thg (K : PySem.W.Frag) (H : Hp) (x : V) : Prop := (∃ a xs, x = .ref a ∧ SqL K H a xs) ∨ (∃ a xs, x = .ref a ∧ SqT K H a xs) ∨ (∃ a kvs, x = .ref a ∧ H a = some (.dK kvs)) ∨ scal x (.str Str.empty) = true
/-- it is this text -/
def isStr : V → Str → Bool
  | .str t, z => decide (t = z)
  | _, _ => false
section
variable {X : Cx}
theorem dict_at {pins : List (Addr × Obj)} {σ : L2.St} {H : Hp} {s : Shared} (I : Inv X pins σ H s) {a : Addr} {kvs : List (Key × V)} (h : H a = some (.dK kvs)) : ∃ o es n, s.heap.get? a = some o ∧ o.cls = .type "dict" ∧ o.data = .dict es n := by
  obtain ⟨_, ya, va, ra, da⟩ := (show ObjOk X.prog X.w H s.heap a (.dK kvs) from I.hok a _ h)
  obtain ⟨o, es, ep, h1, h2, h3, _⟩ := da
  exact ⟨o, es, ep, h1, h2.1, h3⟩
def rEqS (K : PySem.W.Frag) : R2 := fun x y H Q => ∃ z, y = .str z ∧ Thg K H x ∧ Q (.bl (isStr x z)) H
theorem op_eqS (hu : X.A.units < cLine) : OpR X (compareOp .Eq) (rEqS X.K) := by
  intro pins s σ H x y v u Q I rx ry h
  obtain ⟨z, rfl, ht, q⟩ := h
  obtain ⟨tu, rfl⟩ := ry
  rcases ht with ⟨a, xs, rfl, ha⟩ | ⟨a, xs, rfl, ha⟩ | ⟨a, kvs, rfl, ha⟩ | hs
  · cases (show v = Value.ref a from rx)
    obtain ⟨us, r1, p1, _⟩ := I.list ha
    exact SeqAt.RcAt.list_str z tu p1.isList hu _ _ _ _ ⟨.bl _, H, I, rfl, q⟩
  · cases (show v = Value.ref a from rx)
    obtain ⟨us, r1, p1, _⟩ := I.tuple ha
    exact SeqAt.RcAt.tuple_str z tu p1 hu _ _ _ _ ⟨.bl _, H, I, rfl, q⟩
  · cases (show v = Value.ref a from rx)
    exact RcAt.dict_str z tu (dict_at I ha) hu _ _ _ _ ⟨.bl _, H, I, rfl, q⟩
  · have e : scal x (.str z) = true ∧ isStr x z = decide (x = .str z) := by
      cases x with
      | str t => exact ⟨rfl, decide_eq_decide.mpr ⟨fun h => by rw [h], fun h => by injection h⟩⟩
      | non => exact ⟨rfl, rfl⟩
      | int i => exact ⟨rfl, (decide_eq_false nofun).symm⟩
      | bl b => exact ⟨rfl, (decide_eq_false nofun).symm⟩
      | _ => exact absurd hs (by simp [scal])
    rw [e.2] at q
    exact op_eq pins s σ H x (.str z) v _ Q I rx ⟨tu, rfl⟩ ⟨e.1, q⟩
/-- a text and any thing -/
theorem eqAt_thg {pins : List (Addr × Obj)} {σ : L2.St} {H : Hp} {s : Shared} (I : Inv X pins σ H s) {A : Around} (hu : A.units < cLine) {x : V} {v : Value} (rx : RelV x v) (ht : Thg X.K H x) (z : Str) (tu : Tok) : EqAt A s (.str z tu) v (isStr x z) := by
  rcases ht with ⟨a, xs, rfl, ha⟩ | ⟨a, xs, rfl, ha⟩ | ⟨a, kvs, rfl, ha⟩ | hs
  · cases (show v = Value.ref a from rx)
    obtain ⟨us, r1, p1, _⟩ := I.list ha
    exact SeqAt.EqAt.str_list z tu p1.isList hu
  · cases (show v = Value.ref a from rx)
    obtain ⟨us, r1, p1, _⟩ := I.tuple ha
    exact SeqAt.EqAt.str_tuple z tu p1 hu
  · cases (show v = Value.ref a from rx)
    exact EqAt.str_dict z tu (dict_at I ha) hu
  · cases x with
    | str t =>
      obtain ⟨t2, rfl⟩ := rx
      have e : (z == t) = isStr (.str t) z := by
        show (z == t) = decide (t = z)
        rw [Bool.eq_iff_iff, beq_iff_eq, decide_eq_true_eq]
        exact eq_comm
      rw [← e]
      exact SeqAt.EqAt.str_str z tu t t2
    | non =>
      cases rx
      exact SeqAt.EqAt.str_none z tu
    | int i =>
      obtain ⟨t2, rfl⟩ := rx
      exact SeqAt.EqAt.str_int z tu i t2
    | bl b =>
      cases rx
      exact SeqAt.EqAt.str_bool z tu b
    | _ => exact absurd hs (by simp [scal])
def rInS (K : PySem.W.Frag) (neg : Bool) : R2 := fun x y H Q => ∃ (p : Addr) (zs : List Str), y = .ref p ∧ SqT K H p (zs.map V.str) ∧ Thg K H x ∧ Q (.bl (if neg then !(zs.any fun z => isStr x z) else zs.any fun z => isStr x z)) H
def hitU (x : V) : Value → Bool
  | .str t _ => isStr x t
  | _ => false
theorem hits_strs {x : V} : ∀ {zs : List Str} {us : List Value}, Vals (zs.map V.str) us → us.any (hitU x) = zs.any fun z => isStr x z
  | [], _, h => by cases h; rfl
  | z :: zs, _, h => by
    cases h with
    | cons r rs =>
      obtain ⟨t, rfl⟩ := r
      rw [List.any_cons, List.any_cons, hits_strs rs]
      rfl
theorem strs_mem {zs : List Str} {us : List Value} (h : Vals (zs.map V.str) us) {u : Value} (hu : u ∈ us) : ∃ z t, u = .str z t := by
  obtain ⟨j, hj⟩ := List.getElem?_of_mem hu
  have hz : ∃ y, (zs.map V.str)[j]? = some y := by
    cases e : (zs.map V.str)[j]? with
    | some y => exact ⟨y, rfl⟩
    | none =>
      rw [h.none_of e] at hj
      cases hj
  obtain ⟨y, hy⟩ := hz
  obtain ⟨u', hu', r⟩ := h.get hy
  rw [hj] at hu'
  cases hu'
  rw [List.getElem?_map] at hy
  cases hz2 : zs[j]? with
  | none => rw [hz2] at hy; cases hy
  | some z =>
    rw [hz2] at hy
    cases hy
    obtain ⟨t, rfl⟩ := r
    exact ⟨z, t, rfl⟩
theorem op_inS (hu : X.A.units + 1 < cLine) : OpR X (compareOp .In) (rInS X.K false) := by
  intro pins s σ H x y v u Q I rx ry h
  obtain ⟨p, zs, rfl, hq, ht, q⟩ := h
  cases ry
  obtain ⟨its, r, pl, hz⟩ := I.tuple hq
  refine SeqAt.in_tupleAt (hitU x) pl (fun w hw => ?_) ⟨.bl _, H, I, rfl, ?_⟩
  · obtain ⟨z, t, rfl⟩ := strs_mem r (show w ∈ its by simpa using hw)
    exact eqAt_thg I hu rx ht z t
  · rw [show its.toArray.any (hitU x) = its.any (hitU x) by simp, hits_strs r]
    exact q
theorem op_notInS (hu : X.A.units + 1 < cLine) : OpR X (compareOp .NotIn) (rInS X.K true) := by
  intro pins s σ H x y v u Q I rx ry h
  obtain ⟨p, zs, rfl, hq, ht, q⟩ := h
  cases ry
  obtain ⟨its, r, pl, hz⟩ := I.tuple hq
  refine SeqAt.notIn_tupleAt (hitU x) pl (fun w hw => ?_) ⟨.bl _, H, I, rfl, ?_⟩
  · obtain ⟨z, t, rfl⟩ := strs_mem r (show w ∈ its by simpa using hw)
    exact eqAt_thg I hu rx ht z t
  · rw [show its.toArray.any (hitU x) = its.any (hitU x) by simp, hits_strs r]
    exact q
/-- t + u, however -/
def rCatTS (K : PySem.W.Frag) : R2 := fun x y H Q => ∃ a b xs ys, x = .ref a ∧ y = .ref b ∧ SqT K H a xs ∧ SqT K H b ys ∧ xs.length + ys.length ≤ sizeLine ∧ ∀ p H', L2.Same H H' → SqT K H' p (xs ++ ys) → Q (.ref p) H'
theorem op_catTS : OpR X (binaryOp .Add) (rCatTS X.K) := by
  intro pins s σ H x y v u Q I rx ry h
  obtain ⟨a, b, xs, ys, rfl, rfl, ha, hb, hz, q⟩ := h
  refine op_catA pins s σ H _ _ v u Q I rx ry ⟨a, b, xs, ys, rfl, rfl, ha, hb, hz, fun e => ?_, fun _ e => ?_, fun _ _ p hp => q p _ (HX.same_new hp) (SqT.of upd_same)⟩
  · subst e
    exact q b H (L2.Same.refl H) hb
  · subst e
    exact q a H (L2.Same.refl H) (by rw [List.append_nil]; exact ha)
end
end EQT

/-! ### a tuple turned about: t[::-1] -/
namespace EQT
open PySem PySem.Spec PyProof.Rows L2 HT HX PySem.W
theorem fm_congr {α β : Type} {f g : α → Option β} : ∀ {l : List α}, (∀ x ∈ l, f x = g x) → l.filterMap f = l.filterMap g
  | [], _ => rfl
  | a :: l, h => by
    have ih := fm_congr (l := l) fun x hx => h x (List.mem_cons_of_mem _ hx)
    rw [List.filterMap_cons, List.filterMap_cons, h a (List.mem_cons_self ..), ih]
theorem pick_rev (xs : Array Value) : ((List.range xs.size).filterMap fun (m : Nat) => xs[((xs.size : Int) - 1 + (m : Int) * (-1)).toNat]?).toArray = xs.toList.reverse.toArray := by
  have e : (List.range xs.size).filterMap (fun (m : Nat) => xs[((xs.size : Int) - 1 + (m : Int) * (-1)).toNat]?) = ((List.range xs.size).reverse).filterMap fun m => xs[m]? := by
    rw [← krv_range, List.filterMap_map]
    refine fm_congr fun m hm => ?_
    have := List.mem_range.mp hm
    show xs[((xs.size : Int) - 1 + (m : Int) * (-1)).toNat]? = xs[xs.size - 1 - m]?
    rw [show ((xs.size : Int) - 1 + (m : Int) * (-1)).toNat = xs.size - 1 - m by omega]
  rw [e, List.filterMap_reverse]
  congr 2
  exact krv_all xs
section
variable {prog : Program} {w : World} {A : Around} {E : Value → Shared → Prop} {s : Shared}
theorem adjust_rev (n : Nat) : Builtin.Slice.sliceAdjust none none (-1) (n : Int) = ((n : Int) - 1, -1) := by
  unfold Builtin.Slice.sliceAdjust
  simp
theorem places_rev (n : Nat) : Builtin.Slice.slicePlaces ((n : Int) - 1) (-1) (-1) = n := by
  unfold Builtin.Slice.slicePlaces
  simp
  split <;> omega
theorem sliceApplied_rev {sl : Addr} {vs : Value} {n : Nat} {Q : Int × Int × Nat → Shared → Prop} (hs : s.heap.IsSliceOf sl .none .none vs) (ps : IsPart vs (some (-1)))
    (h : Q ((n : Int) - 1, -1, n) s) : wpAny (model prog w) A (Builtin.Slice.sliceApplied (.ref sl) (pure (n : Int))) Q E s := by
  obtain ⟨os, hos, hcs, hds⟩ := id hs
  unfold Builtin.Slice.sliceApplied Builtin.Slice.sliceFields
  refine wpAny_bind (wpAny_bind (wpAny_field hos hds (x := .none) rfl (wpAny_bind (wpAny_field hos hds (x := .none) rfl (wpAny_bind (wpAny_field hos hds (x := vs) rfl (wpAny_pure ?_)))))))
  refine wpAny_bind (slicePart_ ps ?_)
  show wpAny _ _ (if ((-1 : Int) == 0) = true then _ else _) _ _ s
  rw [if_neg (by decide)]
  refine wpAny_bind (slicePart_none (wpAny_bind (slicePart_none (wpAny_bind (wpAny_pure ?_)))))
  show wpAny _ _ (match Builtin.Slice.sliceAdjust none none (-1) (n : Int) with | (lo, hi) => pure (lo, (-1 : Int), Builtin.Slice.slicePlaces lo hi (-1))) _ _ s
  rw [adjust_rev n]
  show wpAny _ _ (pure ((n : Int) - 1, (-1 : Int), Builtin.Slice.slicePlaces ((n : Int) - 1) (-1) (-1))) _ _ s
  rw [places_rev]
  exact wpAny_pure h
theorem getItem_tuple_rev {t sl : Addr} {items : Array Value} {vs : Value} {Q : Value → Shared → Prop} (ht : IsTup s.heap t items) (hs : s.heap.IsSliceOf sl .none .none vs) (ps : IsPart vs (some (-1)))
    (h : Q (.ref s.heap.objs.size) { s with heap := s.heap.push { cls := .type "tuple", data := .seq items.toList.reverse.toArray } })
    (hsz : items.size ≤ sizeLine) : wpAny (model prog w) A (getItem (.ref t) (.ref sl)) Q E s := by
  have htake : sizeOk (.seq items.toList.reverse.toArray) := by
    show items.toList.reverse.toArray.size ≤ sizeLine
    rw [List.size_toArray, List.length_reverse, Array.length_toList]
    exact hsz
  obtain ⟨os, hos, hcs, hds⟩ := id hs
  have hTs : s.TypeIs (.ref sl) "slice" := ⟨os, hos, hcs⟩
  unfold getItem
  try with_reducible refine wpAny_holding ?_
  first | refine wpAny_bind (wpAny_pure ?_) | skip
  refine wpAny_bind (wpAny_sequenceKey ht.typeIs (by decide) ?_)
  refine wpAny_bind (wpAny_callSpecial?_slot (name := Str.ofString "__getitem__") ht.typeIs PyProof.Rows.slot_tuple_getitem
    (wpAny_call_entry PyProof.Rows.slot_tuple_getitem ht.typeIs entry_tuple_getitem ?_ (args_tuple_getitem _ _)))
  show wpAny _ _ (Builtin.Tuple.tupleItemsOf (.ref t) >>= _) _ _ s
  refine wpAny_bind (tupleItemsOf_ ht ?_)
  refine wpAny_bind (wpAny_typeOf hTs ?_)
  rw [if_pos (by decide)]
  refine wpAny_bind (sliceApplied_rev hs ps ?_)
  have hno : ¬ (((items.size : Int) - 1 == 0 && (-1 : Int) == 1 && items.size == items.size) = true) := by
    intro q
    rw [Bool.and_eq_true, Bool.and_eq_true] at q
    exact absurd (eq_of_beq q.1.2) (by decide)
  show wpAny _ _ (if ((items.size : Int) - 1 == 0 && (-1 : Int) == 1 && items.size == items.size) = true then _ else _) _ _ s
  rw [if_neg hno, pick_rev]
  first
    | exact wpAny_bind (m := Builtin.Tuple.tupleExact _) (wpAny_newObj_type (wpAny_pure ⟨_, rfl, wpAny_pure h⟩) htake)
    | exact wpAny_bind (m := Builtin.Tuple.tupleExact _) (wpAny_newObj_type (wpAny_bind (wpAny_pure (wpAny_pure ⟨_, rfl, wpAny_pure h⟩))) htake)
    | exact wpAny_bind (wpAny_bind (m := Builtin.Tuple.tupleExact _) (wpAny_newObj_type (wpAny_pure (wpAny_pure ⟨_, rfl, wpAny_pure h⟩)) htake))
    | exact wpAny_bind (wpAny_bind (m := Builtin.Tuple.tupleExact _) (wpAny_newObj_type (wpAny_pure ⟨_, rfl, wpAny_pure h⟩) htake))
end
/-! the rule -/
def tRevT (K : PySem.W.Frag) (te : TE) : TE := fun σ H Q => te σ H fun x H1 => ∃ a xs, x = .ref a ∧ SqT K H1 a xs ∧ ∀ p H2, Same H1 H2 → H1 p = none → RU.FzT H2 p xs.reverse → Q (.ref p) H2
theorem pe_revT {X : Cx} {e : Expr} {te : TE} {k : Nat} {p1 p2 p3 pos : Pos} (he : PE X e te) : PE X (.Subscript e (.Slice none none (some (.UnaryOp .USub (.Constant (.int 1) k p1) p2)) p3) pos) (tRevT X.K te) := by
  refine ⟨fun pins s σ H Q I h => ?_⟩
  refine Subscript_ (thn (he.run pins s σ H _ I h) fun v s1 ⟨x, H1, I1, r1, q1⟩ => ?_)
  obtain ⟨a, xs, ex, hx, q⟩ := q1
  subst ex
  cases r1
  have hst : PO X (some (.UnaryOp .USub (.Constant (.int 1) k p1) p2)) (tPart (tUn (rU fun i => .int (-i)) (tC (.int 1)))) := po_some (pe_un un_neg pe_int)
  refine wpAny_Slice (thn (po_none.run pins s1 σ H1 (fun o H2 => o = none ∧ H2 = H1) I1 ⟨rfl, rfl⟩) fun vl s2 ⟨l, H2, I2, pl, el, e2⟩ => ?_)
  subst el e2
  refine thn (po_none.run pins s2 σ H2 (fun o H3 => o = none ∧ H3 = H2) I2 ⟨rfl, rfl⟩) fun vu s3 ⟨u, H3, I3, pu, eu, e3⟩ => ?_
  subst eu e3
  refine thn (hst.run pins s3 σ H3 (fun o H4 => o = some (-1) ∧ H4 = H3) I3 ⟨1, rfl, -1, rfl, rfl, rfl⟩) fun vs s4 ⟨o, H4, I4, ps, eo, e4⟩ => ?_
  subst eo e4
  cases pl
  cases pu
  have I5 : Inv X pins σ H4 { s4 with heap := s4.heap.push { cls := .type "slice", data := .fields #[.none, .none, vs] } } := I4.kept (t' := s4.toks) fun b ob q => Heap.get?_push_of_some _ q
  obtain ⟨its, r, ht, hz⟩ := I5.tuple hx
  have hlen := r.length
  show wpAny (model X.prog X.w) X.A (subscriptTail e (.Slice none none (some (.UnaryOp .USub (.Constant (.int 1) k p1) p2)) p3) (.ref a) (.ref s4.heap.objs.size)) (EP X pins σ Q) X.xe { s4 with heap := s4.heap.push { cls := .type "slice", data := .fields #[.none, .none, vs] } }
  refine tail_any (ops := [.ref a, .ref s4.heap.objs.size]) ht.typeIs (PyProof.Rows.slot_tuple_getitem.lookup) ?_ (by with_unfolding_all rfl)
  refine getItem_tuple_rev ht (Heap.IsSliceOf.new _ .none .none vs) ps ?_ (by rw [List.size_toArray]; omega)
  let ob : Obj := { cls := .type "tuple", data := .seq its.toArray.toList.reverse.toArray }
  refine ⟨.ref _, _, I5.laid (t' := s4.toks) (o := .frz ob (.tup xs.reverse)) (fun b u z => Heap.get?_push_of_some _ z) (Nat.le_refl _) ?_, rfl, q _ _ (same_new (I5.hok.fresh (Nat.le_refl _))) (I5.hok.fresh (Nat.le_refl _)) ⟨ob, upd_same, rfl⟩⟩
  exact ⟨Heap.get?_push_size _ rfl, by rw [List.length_reverse]; exact hz, _, by simpa [ob] using r.reverse, _, Heap.get?_push_size _ rfl, rfl, _, rfl⟩
end EQT

/-! ### a tuple many times: t * n -/
namespace EQT
open PySem PySem.Spec PyProof.Rows L2 HT HX PySem.W
theorem tuple_mulSelf (l : Addr) (items : Array Value) (n : Nat) (dd : Option Addr) (sl : Array (Option Value)) (x : Int) (u : Tok) (c0 : (decide (x < -(2 ^ 63)) || decide (x ≥ 2 ^ 63)) = false) (c1 : (items.isEmpty || x == 1) = true) :
    Meets (Builtin.«tuple.__mul__» ⟨[.ref l, .int x u], []⟩) (fun _ R s => s.heap.get? l = some { cls := .type "tuple", dict := dd, data := .seq items n, slots := sl } ∧ R (.ok (.ret (Value.ref l))) s) :=
  .of_wp fun prog w A R s h => by
    obtain ⟨hp, g, d, tk, os⟩ := s
    obtain ⟨hl, h⟩ := h
    have f1 := AutoSeq1.idx_int
    wp_walk using wpAny_loadPart' hl
    repeat (first
      | (refine wpAny_ite_false (decide_eq_false (by rw [c0]; exact Bool.false_ne_true)) ?_; wp_walk using wpAny_loadPart' hl)
      | (refine wpAny_ite_true (decide_eq_true (by rw [c1])) ?_; wp_walk using wpAny_loadPart' hl))
    exact ⟨_, rfl, h⟩
def rRepTS (K : PySem.W.Frag) : R2 := fun x y H Q => ∃ l k xs, x = .ref l ∧ y = .int k ∧ SqT K H l xs ∧ 1 ≤ k ∧ k ≤ 1000 ∧ xs.length ≤ 1000 ∧ ∀ p H', L2.Same H H' → (p = l ∨ H p = none) → SqT K H' p (List.replicate k.toNat xs).flatten → Q (.ref p) H'
section
variable {X : Cx}
theorem rep_self {α : Type} {xs : List α} {k : Int} (h : xs = [] ∨ k = 1) : (List.replicate k.toNat xs).flatten = xs := by
  rcases h with rfl | rfl
  · induction k.toNat with
    | zero => rfl
    | succ n ih => rw [List.replicate_succ, List.flatten_cons, ih]; rfl
  · show (List.replicate 1 xs).flatten = xs
    simp
theorem op_repTS : OpR X (binaryOp .Mult) (rRepTS X.K) := by
  intro pins s σ H x y v u Q I rx ry h
  obtain ⟨l, k, xs, rfl, rfl, hT, h1, h2, hz, q⟩ := h
  by_cases c : xs = [] ∨ k = 1
  · cases rx
    obtain ⟨t, rfl⟩ := ry
    obtain ⟨its, r, ⟨⟨cls, dd, data, sl⟩, ho, hc, n, hd⟩, hs⟩ := I.tuple hT
    simp only at hc hd
    subst hc hd
    have hle : its.length = xs.length := r.length.symm
    have c0 : (decide (k < -(2 ^ 63)) || decide (k ≥ 2 ^ 63)) = false := by
      rw [decide_eq_false (by omega), decide_eq_false (by omega)] <;> rfl
    have c1 : (its.toArray.isEmpty || k == 1) = true := by
      rcases c with rfl | rfl
      · have e : its = [] := List.eq_nil_of_length_eq_zero hle
        subst e
        rfl
      · exact Bool.or_true _
    refine wpAny_binaryOp_repeat_ref (T := "tuple") (U := "int") (by decide) ⟨_, ho, rfl⟩ (fun s' => typeIs_int s' k t) noFill_tuple_mul F.fills_int_mul F.slot_int_rmul repeat_tuple F.slot_int_index.lookup
      (call_meets F.slot_int_rmul (typeIs_int s k t) F.entry_int_rmul (F.args_int_rmul_2 _ _) (int_rmul_tuple k t l its.toArray n dd sl)
        ⟨ho, rfl, ⟨_, ho, rfl⟩, call_meets F.slot_tuple_mul ⟨_, ho, rfl⟩ F.entry_tuple_mul (F.args_tuple_mul_2 _ _) (tuple_mulSelf l its.toArray n dd sl k t c0 c1) ⟨ho, ?_⟩⟩)
    exact ⟨.ref l, H, I, rfl, q l H (L2.Same.refl H) (.inl rfl) (by rw [rep_self c]; exact hT)⟩
  · exact op_repT pins s σ H _ _ v u Q I rx ry ⟨l, k, xs, rfl, rfl, hT, fun e => c (.inl e), by omega, h2, hz, fun p hp => q p _ (HX.same_new hp) (.inr hp) (SqT.of upd_same)⟩
end
end EQT
/-! ### methods of a builtin's value in a comprehension -/
namespace EQT
open PySem PySem.Spec PyProof.Rows L2 HT HX PySem.W
section
variable {X : Cx} {o e : Expr} {es : List Expr} {to : TE} {t : TA} {name : Str} {apos cpos : Pos} {T id : String} {r : V → List V → Hp → VK → Prop}
theorem pe_bmK (K : PySem.W.Frag) (pa : PlainAttrs T) (slot : Slot T name id) (hty : typeOf (.builtin id) = pure (.type "method_descriptor")) (hm : MtR X id r) (ho : PE X o to) (ha : PA X (e :: es) t)
    (hk : X.K = K := by rfl)
    (hbase : attributeBase o name X.env (eval o X.env) = eval o X.env := by rfl)
    (hfew : ((backTo cpos (starEach (e :: es) X.env)).all (fun x => !x.1) && (backToKw cpos (keywordEach [] X.env)).all (fun x => x.1.isSome)
      && decide ((e :: es).length + ([] : List Keyword).length + (if ([] : List Keyword).isEmpty then 0 else 1) < 30)) = true := by rfl)
    (hline : (apos.endLine == cpos.line) = true := by rfl) (hs : starEach (e :: es) X.env = (false, eval e X.env) :: starEach es X.env := by rfl) (hplain : (backTo cpos (starEach es X.env)).any (·.1) = false := by rfl) :
    PE X (.Call (.Attribute o name apos) (e :: es) [] cpos) (tBM K T r to t) := by
  subst hk
  exact pe_bm pa slot hty hm ho ha hbase hfew hline hs hplain
theorem mt_indexK (K : PySem.W.Frag) (hk : X.K = K := by rfl) : MtR X "list.index" (rIndex K) := by
  subst hk
  exact mt_index
theorem notInK (K : PySem.W.Frag) (h : X.K = K := by rfl) : OpR X (compareOp .NotIn) (rIn K true) := h ▸ op_notIn_seq
theorem inK (K : PySem.W.Frag) (h : X.K = K := by rfl) : OpR X (compareOp .In) (rIn K false) := h ▸ op_in_seq
theorem call_tupK (K : PySem.W.Frag) (h : X.K = K := by rfl) : CallR X (.type "tuple") (fun xs H Q => ∃ p ys, xs = [.ref p] ∧ SqL K H p ys ∧ ∀ (l : Addr) (H' : Hp), Same H H' → H l = none → RU.FzT H' l ys → Q (.ref l) H') := by
  subst h
  exact RU.call_tupS
/-! sums and parts of tuples: the tuple itself, or a new one -/
def rSlN (K : PySem.W.Frag) : V → Option Int → Option Int → Hp → VK → Prop := fun x lo hi H Q => ∃ a xs, x = .ref a ∧ SqT K H a xs ∧ ∀ p H', L2.Same H H' → (p = a ∨ H p = none) → SqT K H' p (cutV xs lo hi) → Q (.ref p) H'
theorem sl_tupN : SlR X (rSlN X.K) := by
  intro pins s σ H x v vl vu lo hi sl Q I rx hs pl pu h
  obtain ⟨a, xs, rfl, hx, q⟩ := h
  refine sl_tupA pins s σ H _ v vl vu lo hi sl Q I rx hs pl pu ⟨a, xs, rfl, hx, fun ⟨w1, w2⟩ => q a H (L2.Same.refl H) (.inl rfl) ?_, fun _ p hp => q p _ (HX.same_new hp) (.inr hp) (SqT.of upd_same)⟩
  unfold cutV
  rw [w1, w2, List.drop_zero, Nat.sub_zero, List.take_length]
  exact hx
def rCatTN (K : PySem.W.Frag) : R2 := fun x y H Q => ∃ a b xs ys, x = .ref a ∧ y = .ref b ∧ SqT K H a xs ∧ SqT K H b ys ∧ xs.length + ys.length ≤ sizeLine ∧ ∀ p H', L2.Same H H' → (p = a ∨ p = b ∨ H p = none) → SqT K H' p (xs ++ ys) → Q (.ref p) H'
theorem op_catTN : OpR X (binaryOp .Add) (rCatTN X.K) := by
  intro pins s σ H x y v u Q I rx ry h
  obtain ⟨a, b, xs, ys, rfl, rfl, ha, hb, hz, q⟩ := h
  refine op_catA pins s σ H _ _ v u Q I rx ry ⟨a, b, xs, ys, rfl, rfl, ha, hb, hz, fun e => ?_, fun _ e => ?_, fun _ _ p hp => q p _ (HX.same_new hp) (.inr (.inr hp)) (SqT.of upd_same)⟩
  · subst e
    exact q b H (L2.Same.refl H) (.inr (.inl rfl)) hb
  · subst e
    exact q a H (L2.Same.refl H) (.inl rfl) (by rw [List.append_nil]; exact ha)
/-! a list and a list that is given -/
theorem add_given (l : Addr) (items : Array Value) (n : Nat) (b : Addr) (items2 : Array Value) (n2 : Nat) (sl : Array (Option Value)) (hc0 : items.size + items2.size ≤ sizeLine) :
    Meets (Builtin.«list.__add__» ⟨[.ref l, .ref b], []⟩) (fun _ R s => s.heap.get? l = some { cls := .type "list", dict := none, data := .seq items n, slots := #[] } ∧ s.heap.get? b = some { cls := .type "list", dict := none, data := .seq items2 n2, slots := sl } ∧ R (.ok (.ret (Value.ref s.heap.objs.size))) { s with heap := s.heap.push { cls := Value.type "list", data := Data.seq (items ++ items2) }, toks := s.toks }) :=
  .of_wp fun prog w A R s h => by obtain ⟨hp, g, d, tk, os⟩ := s; obtain ⟨hl, hb, h⟩ := h; have f1 := AutoSeq1.idx_int; have f2 := AutoSeq1.sub_tuple_tuple; have f3 := AutoSeq1.sub_list_list; have f4 := AutoSeq1.sub_tuple_list; have f5 := AutoSeq1.sub_list_tuple; wp_walk using wpAny_loadPart' hl, wpAny_loadPart' hb; exact ⟨_, rfl, h⟩
theorem op_catQ : OpR X (binaryOp .Add) (fun x y H Q => ∃ l b xs zs, x = .ref l ∧ y = .ref b ∧ H l = some (.lst xs) ∧ SqL X.K H b zs ∧ xs.length + zs.length ≤ sizeLine ∧ ∀ (p : Addr) (H' : Hp), L2.Same H H' → H p = none → H' p = some (.lst (xs ++ zs)) → Q (.ref p) H') := by
  intro pins s σ H x y v u Q I rx ry h
  obtain ⟨l, b, xs, zs, rfl, rfl, hH, hB, hz, q⟩ := h
  cases rx
  cases ry
  obtain ⟨z, its, n, r, hl, e⟩ := I.lstM hH
  obtain ⟨its2, r2, ⟨⟨cls, dd, data, sl⟩, n2, e2, hc, hdd, hd⟩, z2⟩ := I.list hB
  simp only at hc hdd hd
  subst hc hdd hd
  have l2 := r2.length
  refine concat_meets ⟨_, e, rfl⟩ ⟨_, e2, rfl⟩ noFill_list_add seq_list_add F.slot_list_add F.entry_list_add (F.args_list_add_2 _ _) (add_given l its.toArray n b its2.toArray n2 sl (by rw [List.size_toArray, List.size_toArray]; omega)) ⟨e, e2, ?_⟩
  have ea : its.toArray ++ its2.toArray = (its ++ its2).toArray := by simp
  rw [ea]
  exact ⟨.ref _, _, I.lnew (t' := s.toks) (r.append r2) (by rw [List.length_append]; omega), rfl, q _ _ (HX.same_new I.fresh) I.fresh upd_same⟩
end
end EQT

namespace K40
open PySem PySem.Spec PyProof.Rows L2 RZ HX
def top (i : Nat) : Stmt := PySem.Challenge.pw_latchgrove_k40_plans_known.main.body.getD i (.Pass ⟨0, 0, 0, 0⟩)
abbrev s_is_whole : Stmt := top 1
abbrev s_is_between : Stmt := top 2
abbrev s_is_row : Stmt := top 3
abbrev s_is_plan_step : Stmt := top 8
abbrev s_is_plan : Stmt := top 9
abbrev s_are_plans : Stmt := top 10
abbrev s_law_pot : Stmt := top 12
abbrev s_law_take : Stmt := top 13
abbrev s_law_pool : Stmt := top 14
abbrev s_law_plan : Stmt := top 15
abbrev s_law_round : Stmt := top 16
abbrev s_law_plans : Stmt := top 17
abbrev s_law_whole : Stmt := top 18
abbrev s_law_is_step : Stmt := top 19
abbrev s_law_is_plan : Stmt := top 20
abbrev s_law_are_plans : Stmt := top 21
abbrev s_law_odd : Stmt := top 22
abbrev s_law_bent_step : Stmt := top 23
abbrev s_law_bent_plan : Stmt := top 24
abbrev s_law_bent : Stmt := top 25
abbrev s_law : Stmt := top 26
theorem sc_is_whole : FnScope ["thing"] ["thing"] (defScope s_is_whole) := ⟨rfl, rfl, rfl, by decide +kernel, rfl, by decide +kernel, by decide +kernel⟩
theorem sc_is_between : FnScope ["thing", "low", "high"] ["thing", "low", "high"] (defScope s_is_between) := ⟨rfl, rfl, rfl, by decide +kernel, rfl, by decide +kernel, by decide +kernel⟩
theorem sc_is_row : FnScope ["thing", "many"] ["thing", "many"] (defScope s_is_row) := ⟨rfl, rfl, rfl, by decide +kernel, rfl, by decide +kernel, by decide +kernel⟩
theorem sc_is_plan_step : FnScope ["thing"] ["thing"] (defScope s_is_plan_step) := ⟨rfl, rfl, rfl, by decide +kernel, rfl, by decide +kernel, by decide +kernel⟩
theorem sc_is_plan : FnScope ["thing", "step", "held"] ["thing"] (defScope s_is_plan) := ⟨rfl, rfl, rfl, by decide +kernel, rfl, by decide +kernel, by decide +kernel⟩
theorem sc_are_plans : FnScope ["thing", "plan"] ["thing"] (defScope s_are_plans) := ⟨rfl, rfl, rfl, by decide +kernel, rfl, by decide +kernel, by decide +kernel⟩
theorem sc_law_pot : FnScope ["script", "k", "cell"] ["script", "k"] (defScope s_law_pot) := ⟨rfl, rfl, rfl, by decide +kernel, rfl, by decide +kernel, by decide +kernel⟩
theorem sc_law_take : FnScope ["pot", "many", "found", "one", "other"] ["pot", "many"] (defScope s_law_take) := ⟨rfl, rfl, rfl, by decide +kernel, rfl, by decide +kernel, by decide +kernel⟩
theorem sc_law_pool : FnScope ["pot", "left", "many", "k"] ["pot"] (defScope s_law_pool) := ⟨rfl, rfl, rfl, by decide +kernel, rfl, by decide +kernel, by decide +kernel⟩
theorem sc_law_plan : FnScope ["pot", "pool", "most", "ordered", "plan", "held", "turn", "free", "space", "page"] ["pot", "pool", "most", "ordered"] (defScope s_law_plan) := ⟨rfl, rfl, rfl, by decide +kernel, rfl, by decide +kernel, by decide +kernel⟩
theorem sc_law_round : FnScope ["pot", "pool", "many", "pulls", "plans", "at", "plan", "one", "other", "hand"] ["pot", "pool"] (defScope s_law_round) := ⟨rfl, rfl, rfl, by decide +kernel, rfl, by decide +kernel, by decide +kernel⟩
theorem sc_law_plans : FnScope ["pot", "most", "ordered", "pool", "k"] ["pot", "most", "ordered"] (defScope s_law_plans) := ⟨rfl, rfl, rfl, by decide +kernel, rfl, by decide +kernel, by decide +kernel⟩
theorem sc_law_whole : FnScope ["thing"] ["thing"] (defScope s_law_whole) := ⟨rfl, rfl, rfl, by decide +kernel, rfl, by decide +kernel, by decide +kernel⟩
theorem sc_law_is_step : FnScope ["thing"] ["thing"] (defScope s_law_is_step) := ⟨rfl, rfl, rfl, by decide +kernel, rfl, by decide +kernel, by decide +kernel⟩
theorem sc_law_is_plan : FnScope ["thing", "held", "step", "page"] ["thing"] (defScope s_law_is_plan) := ⟨rfl, rfl, rfl, by decide +kernel, rfl, by decide +kernel, by decide +kernel⟩
theorem sc_law_are_plans : FnScope ["thing", "plan"] ["thing"] (defScope s_law_are_plans) := ⟨rfl, rfl, rfl, by decide +kernel, rfl, by decide +kernel, by decide +kernel⟩
theorem sc_law_odd : FnScope ["pot", "some"] ["pot"] (defScope s_law_odd) := ⟨rfl, rfl, rfl, by decide +kernel, rfl, by decide +kernel, by decide +kernel⟩
theorem sc_law_bent_step : FnScope ["pot", "step", "odd", "some"] ["pot", "step"] (defScope s_law_bent_step) := ⟨rfl, rfl, rfl, by decide +kernel, rfl, by decide +kernel, by decide +kernel⟩
theorem sc_law_bent_plan : FnScope ["pot", "plan", "at", "step", "some"] ["pot", "plan"] (defScope s_law_bent_plan) := ⟨rfl, rfl, rfl, by decide +kernel, rfl, by decide +kernel, by decide +kernel⟩
theorem sc_law_bent : FnScope ["pot", "plans", "hand", "plan", "some"] ["pot", "plans"] (defScope s_law_bent) := ⟨rfl, rfl, rfl, by decide +kernel, rfl, by decide +kernel, by decide +kernel⟩
theorem sc_law : FnScope ["script", "k", "pot", "plans", "things", "turn", "bent", "thing"] ["script"] (defScope s_law) := ⟨rfl, rfl, rfl, by decide +kernel, rfl, by decide +kernel, by decide +kernel⟩
/-- what the top has written -/
structure TX (K : PySem.W.Frag) (mg : Str → Option Value) where
  fd_is_whole : FuncData
  F_is_whole : FunD K "is_whole" "is_whole" (defArgs s_is_whole) (defBody s_is_whole) (defScope s_is_whole) [] [] (He.ga K "is_whole") fd_is_whole
  g_is_whole : mg "is_whole" = some (.ref (He.ga K "is_whole"))
  fd_is_between : FuncData
  F_is_between : FunD K "is_between" "is_between" (defArgs s_is_between) (defBody s_is_between) (defScope s_is_between) [] [] (He.ga K "is_between") fd_is_between
  g_is_between : mg "is_between" = some (.ref (He.ga K "is_between"))
  fd_is_row : FuncData
  F_is_row : FunD K "is_row" "is_row" (defArgs s_is_row) (defBody s_is_row) (defScope s_is_row) [] [] (He.ga K "is_row") fd_is_row
  g_is_row : mg "is_row" = some (.ref (He.ga K "is_row"))
  fd_is_plan_step : FuncData
  F_is_plan_step : FunD K "is_plan_step" "is_plan_step" (defArgs s_is_plan_step) (defBody s_is_plan_step) (defScope s_is_plan_step) [] [] (He.ga K "is_plan_step") fd_is_plan_step
  g_is_plan_step : mg "is_plan_step" = some (.ref (He.ga K "is_plan_step"))
  fd_is_plan : FuncData
  F_is_plan : FunD K "is_plan" "is_plan" (defArgs s_is_plan) (defBody s_is_plan) (defScope s_is_plan) [] [] (He.ga K "is_plan") fd_is_plan
  g_is_plan : mg "is_plan" = some (.ref (He.ga K "is_plan"))
  fd_are_plans : FuncData
  F_are_plans : FunD K "are_plans" "are_plans" (defArgs s_are_plans) (defBody s_are_plans) (defScope s_are_plans) [] [] (He.ga K "are_plans") fd_are_plans
  g_are_plans : mg "are_plans" = some (.ref (He.ga K "are_plans"))
  fd_law_pot : FuncData
  F_law_pot : FunD K "_law_pot" "_law_pot" (defArgs s_law_pot) (defBody s_law_pot) (defScope s_law_pot) [] [] (He.ga K "_law_pot") fd_law_pot
  g_law_pot : mg "_law_pot" = some (.ref (He.ga K "_law_pot"))
  fd_law_take : FuncData
  F_law_take : FunD K "_law_take" "_law_take" (defArgs s_law_take) (defBody s_law_take) (defScope s_law_take) [] [] (He.ga K "_law_take") fd_law_take
  g_law_take : mg "_law_take" = some (.ref (He.ga K "_law_take"))
  fd_law_pool : FuncData
  F_law_pool : FunD K "_law_pool" "_law_pool" (defArgs s_law_pool) (defBody s_law_pool) (defScope s_law_pool) [] [] (He.ga K "_law_pool") fd_law_pool
  g_law_pool : mg "_law_pool" = some (.ref (He.ga K "_law_pool"))
  fd_law_plan : FuncData
  F_law_plan : FunD K "_law_plan" "_law_plan" (defArgs s_law_plan) (defBody s_law_plan) (defScope s_law_plan) [] [] (He.ga K "_law_plan") fd_law_plan
  g_law_plan : mg "_law_plan" = some (.ref (He.ga K "_law_plan"))
  fd_law_round : FuncData
  F_law_round : FunD K "_law_round" "_law_round" (defArgs s_law_round) (defBody s_law_round) (defScope s_law_round) [] [] (He.ga K "_law_round") fd_law_round
  g_law_round : mg "_law_round" = some (.ref (He.ga K "_law_round"))
  fd_law_plans : FuncData
  F_law_plans : FunD K "_law_plans" "_law_plans" (defArgs s_law_plans) (defBody s_law_plans) (defScope s_law_plans) [] [] (He.ga K "_law_plans") fd_law_plans
  g_law_plans : mg "_law_plans" = some (.ref (He.ga K "_law_plans"))
  fd_law_whole : FuncData
  F_law_whole : FunD K "_law_whole" "_law_whole" (defArgs s_law_whole) (defBody s_law_whole) (defScope s_law_whole) [] [] (He.ga K "_law_whole") fd_law_whole
  g_law_whole : mg "_law_whole" = some (.ref (He.ga K "_law_whole"))
  fd_law_is_step : FuncData
  F_law_is_step : FunD K "_law_is_step" "_law_is_step" (defArgs s_law_is_step) (defBody s_law_is_step) (defScope s_law_is_step) [] [] (He.ga K "_law_is_step") fd_law_is_step
  g_law_is_step : mg "_law_is_step" = some (.ref (He.ga K "_law_is_step"))
  fd_law_is_plan : FuncData
  F_law_is_plan : FunD K "_law_is_plan" "_law_is_plan" (defArgs s_law_is_plan) (defBody s_law_is_plan) (defScope s_law_is_plan) [] [] (He.ga K "_law_is_plan") fd_law_is_plan
  g_law_is_plan : mg "_law_is_plan" = some (.ref (He.ga K "_law_is_plan"))
  fd_law_are_plans : FuncData
  F_law_are_plans : FunD K "_law_are_plans" "_law_are_plans" (defArgs s_law_are_plans) (defBody s_law_are_plans) (defScope s_law_are_plans) [] [] (He.ga K "_law_are_plans") fd_law_are_plans
  g_law_are_plans : mg "_law_are_plans" = some (.ref (He.ga K "_law_are_plans"))
  fd_law_odd : FuncData
  F_law_odd : FunD K "_law_odd" "_law_odd" (defArgs s_law_odd) (defBody s_law_odd) (defScope s_law_odd) [] [] (He.ga K "_law_odd") fd_law_odd
  g_law_odd : mg "_law_odd" = some (.ref (He.ga K "_law_odd"))
  fd_law_bent_step : FuncData
  F_law_bent_step : FunD K "_law_bent_step" "_law_bent_step" (defArgs s_law_bent_step) (defBody s_law_bent_step) (defScope s_law_bent_step) [] [] (He.ga K "_law_bent_step") fd_law_bent_step
  g_law_bent_step : mg "_law_bent_step" = some (.ref (He.ga K "_law_bent_step"))
  fd_law_bent_plan : FuncData
  F_law_bent_plan : FunD K "_law_bent_plan" "_law_bent_plan" (defArgs s_law_bent_plan) (defBody s_law_bent_plan) (defScope s_law_bent_plan) [] [] (He.ga K "_law_bent_plan") fd_law_bent_plan
  g_law_bent_plan : mg "_law_bent_plan" = some (.ref (He.ga K "_law_bent_plan"))
  fd_law_bent : FuncData
  F_law_bent : FunD K "_law_bent" "_law_bent" (defArgs s_law_bent) (defBody s_law_bent) (defScope s_law_bent) [] [] (He.ga K "_law_bent") fd_law_bent
  g_law_bent : mg "_law_bent" = some (.ref (He.ga K "_law_bent"))
  fd_law : FuncData
  F_law : FunD K "law" "law" (defArgs s_law) (defBody s_law) (defScope s_law) [] [] (He.ga K "law") fd_law
  g_law : mg "law" = some (.ref (He.ga K "law"))
  g_MOST_HANDS : ∃ t, mg "MOST_HANDS" = some (.int 4 t)
  g_MOST_STEPS : ∃ t, mg "MOST_STEPS" = some (.int 16 t)
  g_LAST_PLANNED : ∃ t, mg "LAST_PLANNED" = some (.int 60 t)
  n_abs : mg "abs" = none
  n_all : mg "all" = none
  n_bool : mg "bool" = none
  n_int : mg "int" = none
  n_isinstance : mg "isinstance" = none
  n_len : mg "len" = none
  n_list : mg "list" = none
  n_max : mg "max" = none
  n_min : mg "min" = none
  n_range : mg "range" = none
  n_repr : mg "repr" = none
  n_str : mg "str" = none
  n_tuple : mg "tuple" = none
theorem b_is_whole {K : PySem.W.Frag} {mg : Str → Option Value} (T : TX K mg) : Binds K T.fd_is_whole ["thing"] [] := T.F_is_whole.bindsN fun _ _ _ _ _ _ us hl => match us, hl with | [_], _ => rfl
theorem b_is_between {K : PySem.W.Frag} {mg : Str → Option Value} (T : TX K mg) : Binds K T.fd_is_between ["thing", "low", "high"] [] := T.F_is_between.bindsN fun _ _ _ _ _ _ us hl => match us, hl with | [_, _, _], _ => rfl
theorem b_is_row {K : PySem.W.Frag} {mg : Str → Option Value} (T : TX K mg) : Binds K T.fd_is_row ["thing", "many"] [] := T.F_is_row.bindsN fun _ _ _ _ _ _ us hl => match us, hl with | [_, _], _ => rfl
theorem b_is_plan_step {K : PySem.W.Frag} {mg : Str → Option Value} (T : TX K mg) : Binds K T.fd_is_plan_step ["thing"] [] := T.F_is_plan_step.bindsN fun _ _ _ _ _ _ us hl => match us, hl with | [_], _ => rfl
theorem b_is_plan {K : PySem.W.Frag} {mg : Str → Option Value} (T : TX K mg) : Binds K T.fd_is_plan ["thing"] [] := T.F_is_plan.bindsN fun _ _ _ _ _ _ us hl => match us, hl with | [_], _ => rfl
theorem b_are_plans {K : PySem.W.Frag} {mg : Str → Option Value} (T : TX K mg) : Binds K T.fd_are_plans ["thing"] [] := T.F_are_plans.bindsN fun _ _ _ _ _ _ us hl => match us, hl with | [_], _ => rfl
theorem b_law_pot {K : PySem.W.Frag} {mg : Str → Option Value} (T : TX K mg) : Binds K T.fd_law_pot ["script", "k"] [] := T.F_law_pot.bindsN fun _ _ _ _ _ _ us hl => match us, hl with | [_, _], _ => rfl
theorem b_law_take {K : PySem.W.Frag} {mg : Str → Option Value} (T : TX K mg) : Binds K T.fd_law_take ["pot", "many"] [] := T.F_law_take.bindsN fun _ _ _ _ _ _ us hl => match us, hl with | [_, _], _ => rfl
theorem b_law_pool {K : PySem.W.Frag} {mg : Str → Option Value} (T : TX K mg) : Binds K T.fd_law_pool ["pot"] [] := T.F_law_pool.bindsN fun _ _ _ _ _ _ us hl => match us, hl with | [_], _ => rfl
theorem b_law_plan {K : PySem.W.Frag} {mg : Str → Option Value} (T : TX K mg) : Binds K T.fd_law_plan ["pot", "pool", "most", "ordered"] [] := T.F_law_plan.bindsN fun _ _ _ _ _ _ us hl => match us, hl with | [_, _, _, _], _ => rfl
theorem b_law_round {K : PySem.W.Frag} {mg : Str → Option Value} (T : TX K mg) : Binds K T.fd_law_round ["pot", "pool"] [] := T.F_law_round.bindsN fun _ _ _ _ _ _ us hl => match us, hl with | [_, _], _ => rfl
theorem b_law_plans {K : PySem.W.Frag} {mg : Str → Option Value} (T : TX K mg) : Binds K T.fd_law_plans ["pot", "most", "ordered"] [] := T.F_law_plans.bindsN fun _ _ _ _ _ _ us hl => match us, hl with | [_, _, _], _ => rfl
theorem b_law_whole {K : PySem.W.Frag} {mg : Str → Option Value} (T : TX K mg) : Binds K T.fd_law_whole ["thing"] [] := T.F_law_whole.bindsN fun _ _ _ _ _ _ us hl => match us, hl with | [_], _ => rfl
theorem b_law_is_step {K : PySem.W.Frag} {mg : Str → Option Value} (T : TX K mg) : Binds K T.fd_law_is_step ["thing"] [] := T.F_law_is_step.bindsN fun _ _ _ _ _ _ us hl => match us, hl with | [_], _ => rfl
theorem b_law_is_plan {K : PySem.W.Frag} {mg : Str → Option Value} (T : TX K mg) : Binds K T.fd_law_is_plan ["thing"] [] := T.F_law_is_plan.bindsN fun _ _ _ _ _ _ us hl => match us, hl with | [_], _ => rfl
theorem b_law_are_plans {K : PySem.W.Frag} {mg : Str → Option Value} (T : TX K mg) : Binds K T.fd_law_are_plans ["thing"] [] := T.F_law_are_plans.bindsN fun _ _ _ _ _ _ us hl => match us, hl with | [_], _ => rfl
theorem b_law_odd {K : PySem.W.Frag} {mg : Str → Option Value} (T : TX K mg) : Binds K T.fd_law_odd ["pot"] [] := T.F_law_odd.bindsN fun _ _ _ _ _ _ us hl => match us, hl with | [_], _ => rfl
theorem b_law_bent_step {K : PySem.W.Frag} {mg : Str → Option Value} (T : TX K mg) : Binds K T.fd_law_bent_step ["pot", "step"] [] := T.F_law_bent_step.bindsN fun _ _ _ _ _ _ us hl => match us, hl with | [_, _], _ => rfl
theorem b_law_bent_plan {K : PySem.W.Frag} {mg : Str → Option Value} (T : TX K mg) : Binds K T.fd_law_bent_plan ["pot", "plan"] [] := T.F_law_bent_plan.bindsN fun _ _ _ _ _ _ us hl => match us, hl with | [_, _], _ => rfl
theorem b_law_bent {K : PySem.W.Frag} {mg : Str → Option Value} (T : TX K mg) : Binds K T.fd_law_bent ["pot", "plans"] [] := T.F_law_bent.bindsN fun _ _ _ _ _ _ us hl => match us, hl with | [_, _], _ => rfl
theorem b_law {K : PySem.W.Frag} {mg : Str → Option Value} (T : TX K mg) : Binds K T.fd_law ["script"] [] := T.F_law.bindsN fun _ _ _ _ _ _ us hl => match us, hl with | [_], _ => rfl
end K40

namespace K40
open PySem PySem.Spec PyProof.Rows L2 RZ HX
/-- a pot at p: its three numbers, the last at most B -/
def PotOk (H : Hp) (p : Addr) (B : Int) : Prop := ∃ x y c : Int, H p = some (.lst [.int x, .int y, .int c]) ∧ 0 ≤ x ∧ x < 2 ^ 2000 ∧ 0 ≤ y ∧ y < 2 ^ 61 ∧ 0 ≤ c ∧ c ≤ B
theorem PotOk.le {H : Hp} {p : Addr} {B C : Int} (h : PotOk H p B) (l : B ≤ C) : PotOk H p C := by
  obtain ⟨x, y, c, h1, h2, h3, h4, h5, h6, h7⟩ := h
  exact ⟨x, y, c, h1, h2, h3, h4, h5, h6, Int.le_trans h7 l⟩
theorem PotOk.same {H H' : Hp} {p : Addr} {B : Int} (h : PotOk H p B) (s : Same H H') : PotOk H' p B := by
  obtain ⟨x, y, c, h1, r⟩ := h
  exact ⟨x, y, c, s _ _ h1, r⟩
theorem PotOk.ne {H : Hp} {p q : Addr} {B : Int} (h : PotOk H p B) (n : H q = none) : p ≠ q := by
  obtain ⟨x, y, c, h1, r⟩ := h
  exact ne_of_none h1 n
theorem PotOk.new {H : Hp} {p q : Addr} {B : Int} {o : HO} (h : PotOk H p B) (n : H q = none) : PotOk (upd H q o) p B := h.same (same_new n)
theorem ten600 : (((10 : Int) ^ (60 : Int).toNat) ^ (10 : Int).toNat) < 2 ^ 2000 := by decide +kernel
section
variable {P : Program} {w : World} {K : PySem.W.Frag} {mg : Str → Option Value} {base : Heap}
def sp_law_pot (K : PySem.W.Frag) : Sp := fun vs H Q _ => ∃ (a : Addr) (ns : List Int) (k : Nat), vs = [.ref a, .int (k : Int)] ∧ SqL K H a (ns.map V.int) ∧ k ≤ 1000 ∧ ∀ H' p, Same H H' → H p = none → PotOk H' p 0 → Q (.ref p) H'
theorem ok_law_pot (T : TX K mg) : FnOk P w K mg base CX0 1 (He.ga K "_law_pot") T.fd_law_pot ["script", "k"] (sp_law_pot K) := by
  refine T.F_law_pot.ok sc_law_pot (fun vs H Q E h => ?_) (fun cdv A outer st H vs Q E hr h => ?_)
  · obtain ⟨a, ns, k, rfl, _⟩ := h
    rfl
  · obtain ⟨a, ns, k, rfl, hS, hk, kq⟩ := h
    refine ⟨_, PSs.nox (pss_cons (ps_set (i := 2) sc_law_pot.nd rfl (Or.inl rfl) pe_int)
 (Evl.pss_cut (ps_if (pt_cmpR op_lt (pv 1) (pe_callB call_len_seq rfl T.n_len PySem.boot_len (pa_cons (pv 0) pa_nil)) (nomark _))
 (pss_one (ps_set (i := 2) sc_law_pot.nd rfl (Or.inl rfl) (pe_op op_mod (pe_callB call_abs rfl T.n_abs (by decide +kernel) (pa_cons (pe_ix ix_list (pv 0) (pv 1) (fun _ _ => rfl)) pa_nil)) (pe_op op_powW (pe_op op_powW pe_int pe_int) pe_int))))
 pss_nil)
 (pss_one (ps_ret (pe_lst (pa_cons (pe_op op_mulW (pv 2) (pe_callTy call_int1 rfl T.n_int (by decide +kernel) (pa_cons (pe_cmpR op_ge (pv 2) (pe_op op_powW pe_int pe_int) (nomark _)) pa_nil))) (pa_cons (pe_op op_mod (pe_op op_powW (pe_op op_add (pe_op op_add (pe_op op_mod (pv 2) pe_int) (pe_op op_mulW pe_int (pv 1))) pe_int) pe_int) pe_int) (pa_cons pe_int pa_nil)))))))), ?_⟩
    refine ⟨fun σ' H' => ∃ cell : Int, σ' = [some (.ref a), some (.int (k : Int)), some (.int cell)] ∧ H' = H ∧ 0 ≤ cell ∧ cell < 2 ^ 2000, ?_, ?_⟩
    · refine ⟨_, rfl, _, rfl, a, _, rfl, .inl hS, _, _, rfl, rfl, _, rfl, ?_⟩
      refine ite2 (fun hc => ?_) (fun hc => ?_)
      · have hc' := of_decide_eq_true hc
        rw [List.length_map] at hc'
        obtain ⟨n, hn⟩ : ∃ n, ns[k]? = some n := ⟨ns[k]'(by omega), List.getElem?_eq_getElem (by omega)⟩
        refine ⟨_, rfl, _, rfl, a, _, _, _, rfl, rfl, hS, at_of (v := V.int n) (by rw [List.getElem?_map, hn]; rfl) rfl, _, rfl, ?_⟩
        have p1 : (0 : Int) < 10 ^ (60 : Int).toNat := Int.pow_pos (by decide)
        have p2 : (0 : Int) < ((10 : Int) ^ (60 : Int).toNat) ^ (10 : Int).toNat := Int.pow_pos p1
        refine ⟨_, _, rfl, rfl, powW_of (a := 4) (by decide) (by decide) (by decide) (by decide), _, _, rfl, rfl, powW_of (a := 200) (by decide) (by decide +kernel) (by decide) (by decide), _, _, rfl, rfl, p2, ?_⟩
        refine ⟨_, rfl, rfl, Int.emod_nonneg _ (Int.ne_of_gt p2), Int.lt_trans (Int.emod_lt_of_pos _ p2) ten600⟩
      · exact ⟨0, rfl, rfl, by decide, Int.pow_pos (by decide)⟩
    · rintro σ' H' ⟨cell, rfl, rfl, c0, c1⟩
      have cn : cell.natAbs < 2 ^ 2000 := by
        have z : ((cell.natAbs : Nat) : Int) < ((2 ^ 2000 : Nat) : Int) := by
          rw [Int.natAbs_of_nonneg c0]
          exact_mod_cast c1
        exact_mod_cast z
      refine ⟨_, rfl, _, rfl, _, _, rfl, rfl, powW_of (a := 4) (by decide) (by decide) (by decide) (by decide), _, _, rfl, rfl, .inr ⟨_, rfl, ?_⟩⟩
      have bb : ∀ b : Bool, (0 : Int) ≤ (if b = true then 1 else 0) ∧ (if b = true then 1 else 0 : Int) ≤ 1 := fun b => by cases b <;> decide
      obtain ⟨d0, d1⟩ := bb (decide ((10 : Int) ^ (18 : Int).toNat ≤ cell))
      generalize (if decide ((10 : Int) ^ (18 : Int).toNat ≤ cell) = true then 1 else 0 : Int) = d at d0 d1
      refine ⟨_, _, rfl, rfl, wide_mul (a := 2000) (b := 2) cn (by omega) (by decide) (by decide) (by decide), ?_⟩
      have m1 : 0 ≤ cell % 2147483629 := Int.emod_nonneg _ (by decide)
      have m2 : cell % 2147483629 < 2147483629 := Int.emod_lt_of_pos _ (by decide)
      refine ⟨_, rfl, _, _, rfl, rfl, (show (0 : Int) < 2147483629 by decide), _, rfl, _, _, rfl, rfl, wide_mul (a := 20) (b := 20) (by decide) (by omega) (by decide) (by decide) (by decide), _, _, rfl, rfl, _, _, rfl, rfl, _, _, rfl, rfl, powW_of (a := 64) (by decide) (by omega) (by decide) (by decide), _, _, rfl, rfl, (show (0 : Int) < 2305843009213693951 by decide), ?_⟩
      refine ⟨by show 3 ≤ sizeLine; decide, fun p hp => kq _ p (same_new hp) hp ⟨_, _, _, upd_same, Int.mul_nonneg c0 d0, ?_, Int.emod_nonneg _ (by decide), Int.lt_of_lt_of_le (Int.emod_lt_of_pos _ (by decide)) (by decide), Int.le_refl 0, Int.le_refl 0⟩⟩
      have z := Int.mul_le_mul_of_nonneg_left d1 c0
      rw [Int.mul_one] at z
      exact Int.lt_of_le_of_lt z c1
def sp_law_take : Sp := fun vs H Q _ => ∃ (p : Addr) (many B : Int), vs = [.ref p, .int many] ∧ 0 < many ∧ many < 2 ^ 60 ∧ PotOk H p B ∧ B < 2 ^ 40 ∧ ∀ H' v, But p H H' → PotOk H' p (B + 1) → 0 ≤ v → v < many → Q (.int v) H'
theorem ok_law_take (T : TX K mg) : FnOk P w K mg base CX0 1 (He.ga K "_law_take") T.fd_law_take ["pot", "many"] sp_law_take := by
  refine T.F_law_take.ok sc_law_take (fun vs H Q E h => ?_) (fun cdv A outer st H vs Q E hr h => ?_)
  · obtain ⟨p, many, B, rfl, _⟩ := h
    rfl
  · obtain ⟨p, many, B, rfl, hm0, hm1, ⟨x, y, c, hp, x0, x1, y0, y1, c0, c1⟩, hB, kq⟩ := h
    refine ⟨_, PSs.nox (pss_cons (ps_if (pt_cmpR op_gt (pe_ix ix_list (pv 0) pe_int (fun _ _ => rfl)) pe_int (nomark _))
 (pss_cons (ps_set (i := 2) sc_law_take.nd rfl (Or.inl rfl) (pe_op op_mod (pe_ix ix_list (pv 0) pe_int (fun _ _ => rfl)) (pv 1)))
 (pss_cons (ps_asg (pe_op op_fdivW (pe_ix ix_list (pv 0) pe_int (fun _ _ => rfl)) (pv 1)) (pg_sub (pv 0) pe_int set_list))
 (pss_one (ps_ret (pv 2)))))
 pss_nil)
 (pss_cons (ps_asg (pe_op op_add (pe_ix ix_list (pv 0) pe_int (fun _ _ => rfl)) pe_int) (pg_sub (pv 0) pe_int set_list))
 (pss_cons (ps_set (i := 3) sc_law_take.nd rfl (Or.inl rfl) (pe_op op_mod (pe_op op_powW (pe_op op_add (pe_ix ix_list (pv 0) pe_int (fun _ _ => rfl)) (pe_op op_mulW pe_int (pe_ix ix_list (pv 0) pe_int (fun _ _ => rfl)))) pe_int) pe_int))
 (pss_cons (ps_set (i := 4) sc_law_take.nd rfl (Or.inl rfl) (pe_op op_mod (pe_op op_powW (pe_op op_add (pe_op op_add (pv 3) (pe_op op_mod (pe_ix ix_list (pv 0) pe_int (fun _ _ => rfl)) pe_int)) (pe_op op_mulW pe_int (pe_ix ix_list (pv 0) pe_int (fun _ _ => rfl)))) pe_int) pe_int))
 (pss_one (ps_ret (pe_op op_mod (pe_op op_fdivW (pv 4) pe_int) (pv 1)))))))), ?_⟩
    have i0 : ∀ (a b c : V), atI [a, b, c] 0 = some a := fun _ _ _ => rfl
    have i1 : ∀ (a b c : V), atI [a, b, c] 1 = some b := fun _ _ _ => rfl
    have i2 : ∀ (a b c : V), atI [a, b, c] 2 = some c := fun _ _ _ => rfl
    have bt : ∀ {o : HO}, But p H (upd H p o) := (But.refl p H).upd
    refine ⟨_, rfl, p, _, _, _, rfl, rfl, SqL.of hp, i0 _ _ _, _, _, rfl, rfl, _, rfl, ?_⟩
    refine ite2 (fun hc => ?_) (fun hc => ?_)
    · refine ⟨_, rfl, p, _, _, _, rfl, rfl, SqL.of hp, i0 _ _ _, _, rfl, _, _, rfl, rfl, hm0, ?_⟩
      refine ⟨_, rfl, p, _, _, _, rfl, rfl, SqL.of hp, i0 _ _ _, _, rfl, _, _, rfl, rfl, wide_div (b := 60) hm0 (by omega) (by decide) (by decide), _, rfl, p, _, _, _, rfl, rfl, hp, rfl, ?_⟩
      refine ⟨_, rfl, kq _ _ bt ⟨_, _, _, upd_same, Int.ediv_nonneg x0 (Int.le_of_lt hm0), Int.lt_of_le_of_lt (Int.ediv_le_self _ x0) x1, y0, y1, c0, by omega⟩ (Int.emod_nonneg _ (Int.ne_of_gt hm0)) (Int.emod_lt_of_pos _ hm0)⟩
    · refine ⟨_, rfl, p, _, _, _, rfl, rfl, SqL.of hp, i2 _ _ _, _, _, rfl, rfl, _, rfl, p, _, _, _, rfl, rfl, hp, rfl, ?_⟩
      have h2 : upd H p (.lst ([V.int x, V.int y, V.int c].set 2 (.int (c + 1)))) p = some (.lst [.int x, .int y, .int (c + 1)]) := upd_same
      refine ⟨_, rfl, p, _, _, _, rfl, rfl, SqL.of h2, i1 _ _ _, _, rfl, p, _, _, _, rfl, rfl, SqL.of h2, i2 _ _ _, ?_⟩
      refine ⟨_, _, rfl, rfl, wide_mul (a := 20) (b := 42) (by decide) (by omega) (by decide) (by decide) (by decide), _, _, rfl, rfl, _, _, rfl, rfl, powW_of (a := 64) (by decide) (by omega) (by decide) (by decide), _, _, rfl, rfl, (show (0 : Int) < 2305843009213693921 by decide), ?_⟩
      have m1 : 0 ≤ (y + 104729 * (c + 1)) ^ (3 : Int).toNat % 2305843009213693921 := Int.emod_nonneg _ (by decide)
      have m2 : (y + 104729 * (c + 1)) ^ (3 : Int).toNat % 2305843009213693921 < 2305843009213693921 := Int.emod_lt_of_pos _ (by decide)
      generalize (y + 104729 * (c + 1)) ^ (3 : Int).toNat % 2305843009213693921 = one at m1 m2
      refine ⟨_, rfl, _, rfl, p, _, _, _, rfl, rfl, SqL.of h2, i1 _ _ _, _, _, rfl, rfl, (show (0 : Int) < 65537 by decide), _, _, rfl, rfl, _, rfl, p, _, _, _, rfl, rfl, SqL.of h2, i2 _ _ _, ?_⟩
      have m3 : 0 ≤ y % 65537 := Int.emod_nonneg _ (by decide)
      have m4 : y % 65537 < 65537 := Int.emod_lt_of_pos _ (by decide)
      generalize y % 65537 = yy at m3 m4
      refine ⟨_, _, rfl, rfl, wide_mul (a := 20) (b := 42) (by decide) (by omega) (by decide) (by decide) (by decide), _, _, rfl, rfl, _, _, rfl, rfl, powW_of (a := 64) (by decide) (by omega) (by decide) (by decide), _, _, rfl, rfl, (show (0 : Int) < 2305843009213693907 by decide), ?_⟩
      refine ⟨_, rfl, _, _, rfl, rfl, ⟨by decide, by decide⟩, _, rfl, _, _, rfl, rfl, hm0, ?_⟩
      exact kq _ _ bt ⟨_, _, _, h2, x0, x1, y0, y1, by omega, by omega⟩ (Int.emod_nonneg _ (Int.ne_of_gt hm0)) (Int.emod_lt_of_pos _ hm0)
end
end K40

namespace K40
open PySem PySem.Spec PyProof.Rows L2 RZ HX TR
theorem PotOk.keep {H H' : Hp} {p : Addr} {B : Int} (h : PotOk H p B) (b : But p H H') : Keep H H' := Keep.but b fun u z => by
  obtain ⟨x, y, c, h1, _⟩ := h
  rw [h1] at z
  cases z
  rfl
theorem PotOk.noTup {H : Hp} {p : Addr} {B : Int} (h : PotOk H p B) : ∀ u, H p = some u → tpb u = false := fun u z => by
  obtain ⟨x, y, c, h1, _⟩ := h
  rw [h1] at z
  cases z
  rfl
section
variable {P : Program} {w : World} {K : PySem.W.Frag} {mg : Str → Option Value} {base : Heap}
def sp_law_shape (N : Nat) : Sp := fun vs H Q _ => ∃ (p : Addr) (room l wide : Nat) (top : Bool) (B : Int), vs = [.ref p, .int (room : Int), .int ((l + 1 : Nat) : Int), .bl top, .int (wide : Int)] ∧ l < N ∧ 3 ≤ room ∧ room ≤ 8 ∧ wide ≤ 1000 ∧ PotOk H p B ∧ B + cS room l < 2 ^ 39 ∧
  ∀ (H' : Hp) (v : V) (s : Sh l), But p H H' → PotOk H' p (B + cS room l) → ShAt H' l v s → WfSh room l top s → Q v H'
end
end K40

namespace K40
open PySem PySem.Spec PyProof.Rows L2 RZ HX TR
theorem sum_cast {α : Type} (f : α → Nat) : ∀ xs : List α, (xs.map fun x => ((f x : Nat) : Int)).sum = ((xs.map f).sum : Nat)
  | [] => rfl
  | x :: xs => by
    rw [List.map_cons, List.sum_cons, List.map_cons, List.sum_cons, sum_cast f xs]
    omega
section
variable {P : Program} {w : World} {K : PySem.W.Frag} {mg : Str → Option Value} {base : Heap}
def sp_law_many (N : Nat) : Sp := fun vs H Q _ => ∃ (l room : Nat) (top : Bool) (v : V) (s : Sh l), vs = [v] ∧ l < N ∧ room ≤ 8 ∧ WfSh room l top s ∧ ShAt H l v s ∧ (∀ H', Same H H' → Q (.int (cntS l s : Int)) H')
def sp_law_pages (N : Nat) : Sp := fun vs H Q _ => ∃ (l room : Nat) (top : Bool) (v : V) (s : Sh l), vs = [v] ∧ l < N ∧ room ≤ 8 ∧ WfSh room l top s ∧ ShAt H l v s ∧ (∀ H', Same H H' → Q (.int (pgsS l s : Int)) H')
end
end K40

namespace K40
open PySem PySem.Spec PyProof.Rows L2 RZ HX TR
/-- a list of pairs -/
def PrsAt (H : Hp) (a : Addr) (ps : List (Int × Int)) : Prop := ∃ xs : List V, H a = some (.lst xs) ∧ Paired (PrAt H) xs ps
/-- pairs as a tree has them -/
def PrsOk (ps : List (Int × Int)) : Prop := ps.Pairwise (fun a b => a.1 < b.1) ∧ ∀ q ∈ ps, 0 ≤ q.1 ∧ q.1 ≤ 1000000000 ∧ 0 ≤ q.2 ∧ q.2 ≤ 1000000000
/-- but for the last one the keys are small -/
def PrsLow (ps : List (Int × Int)) : Prop := ∀ (j : Nat) (q : Int × Int), ps[j]? = some q → j + 1 < ps.length → q.1 < 100000000
theorem pick2 {q : Addr} {H : Hp} {a b : Int} {c : Bool} (h : H q = some (.lst [.int a, .int b])) : ∃ v : Int, H q = some (.lst [.int a, .int b]) ∧ atI [V.int a, V.int b] (if c = true then 1 else 0) = some (.int v) ∧ (v = a ∨ v = b) := by
  cases c with
  | true => exact ⟨b, h, rfl, .inr rfl⟩
  | false => exact ⟨a, h, rfl, .inl rfl⟩
theorem paired_set {α β : Type} {R : α → β → Prop} {x : α} {y : β} : ∀ {xs : List α} {ys : List β} {c : Nat}, Paired R xs ys → R x y → Paired R (xs.set c x) (ys.set c y)
  | _, _, _, .nil, _ => .nil
  | _, _, 0, .cons _ rs, h => .cons h rs
  | _, _, _ + 1, .cons r rs, h => .cons r (paired_set rs h)
theorem prsOk_set {ps : List (Int × Int)} {c : Nat} {y : Int × Int} (h : PrsOk ps) (hl : ps.length = c + 1) (hy : ps[c]? = some y) (hb : ∀ q ∈ ps, q.1 < 10 ^ 9) : PrsOk (ps.set c (10 ^ 9, y.2)) := by
  have e : ps = ps.take c ++ [y] := by
    rw [← take_more hy, List.take_of_length_le (by omega)]
  have e2 : ps.set c ((10 : Int) ^ 9, y.2) = ps.take c ++ [((10 : Int) ^ 9, y.2)] := by
    have hl' : (ps.take c).length = c := by rw [List.length_take]; omega
    rw [e, List.set_append, if_neg (by rw [hl']; omega), hl', Nat.sub_self, List.take_left' hl']
    rfl
  have hp := h.1
  rw [e] at hp
  obtain ⟨h1, _, _⟩ := List.pairwise_append.mp hp
  rw [e2]
  refine ⟨List.pairwise_append.mpr ⟨h1, List.pairwise_singleton _ _, fun a ha b hb' => ?_⟩, fun q hq => ?_⟩
  · obtain rfl := List.mem_singleton.mp hb'
    exact hb a (List.mem_of_mem_take ha)
  · rcases List.mem_append.mp hq with hq | hq
    · exact h.2 q (List.mem_of_mem_take hq)
    · obtain rfl := List.mem_singleton.mp hq
      have := h.2 y (by rw [e]; exact List.mem_append_right _ (List.mem_singleton.mpr rfl))
      exact ⟨(by decide : (0 : Int) ≤ 10 ^ 9), (by decide : (10 : Int) ^ 9 ≤ 1000000000), this.2.2⟩
section
variable {P : Program} {w : World} {K : PySem.W.Frag} {mg : Str → Option Value} {base : Heap}
def sp_law_pairs : Sp := fun vs H Q _ => ∃ (p : Addr) (many : Nat) (B : Int), vs = [.ref p, .int (many : Int)] ∧ many ≤ 40000 ∧ PotOk H p B ∧ B + 10 * many + 10 < 2 ^ 39 ∧
  ∀ (H' : Hp) (a : Addr) (ps : List (Int × Int)), But p H H' → PotOk H' p (B + 10 * many + 10) → H a = none → PrsAt H' a ps → ps.length = many → PrsOk ps → PrsLow ps → Q (.ref a) H'
end
end K40

namespace K40
open PySem PySem.Spec PyProof.Rows L2 RZ HX TR
theorem cut_to {xs : List V} {n : Nat} (h : n ≤ xs.length) : cutV xs none (some (n : Int)) = xs.take n := by
  have e1 : HT.sIx xs.length 0 none = 0 := rfl
  have e2 : HT.sIx xs.length xs.length (some (n : Int)) = n := by rw [HT.sIx_nat]; omega
  unfold cutV
  rw [e1, e2]
  rfl
theorem cut_from {xs : List V} {n : Nat} (h : n ≤ xs.length) : cutV xs (some (n : Int)) none = xs.drop n := by
  have e1 : HT.sIx xs.length 0 (some (n : Int)) = n := by rw [HT.sIx_nat]; omega
  have e2 : HT.sIx xs.length xs.length none = xs.length := rfl
  unfold cutV
  rw [e1, e2, List.take_of_length_le (by rw [List.length_drop]; omega)]
theorem seq0 (n : Nat) : seqIndex? 0 (n + 1) = some 0 := by
  show (if (decide ((0 : Int) ≤ 0) && decide ((0 : Int) < ((n + 1 : Nat) : Int))) = true then some (0 : Int).toNat else none) = some 0
  rw [if_pos (by simp)]
  rfl
/-- a tuple just made, of which one knows that it has no dict -/
def FzT (H : Hp) (a : Addr) (xs : List V) : Prop := ∃ o : Obj, H a = some (.frz o (.tup xs)) ∧ o.dict = none
theorem FzT.keep {H H' : Hp} (k : Keep H H') {a : Addr} {xs : List V} (h : FzT H a xs) : FzT H' a xs := by
  obtain ⟨o, h1, h2⟩ := h
  exact ⟨o, k.frz h1, h2⟩
theorem FzT.same {H H' : Hp} (k : Same H H') {a : Addr} {xs : List V} (h : FzT H a xs) : FzT H' a xs := h.keep (Keep.of k)
theorem FzT.sq {K : PySem.W.Frag} {H : Hp} {a : Addr} {xs : List V} (h : FzT H a xs) : SqT K H a xs := by
  obtain ⟨o, h1, _⟩ := h
  exact .inl (.inr ⟨o, h1⟩)
theorem FzT.ty {K : PySem.W.Frag} {H : Hp} {a : Addr} {xs : List V} (h : FzT H a xs) : TyX K H (.ref a) (.type "tuple") := by
  obtain ⟨o, h1, _⟩ := h
  exact .fTuple h1
def PrT (H : Hp) (a : Addr) (ps : List (Int × Int)) : Prop := ∃ xs : List V, FzT H a xs ∧ Paired (PrAt H) xs ps
theorem PrT.keep {H H' : Hp} (k : Keep H H') {a : Addr} {ps : List (Int × Int)} (h : PrT H a ps) : PrT H' a ps := by
  obtain ⟨xs, h1, h2⟩ := h
  exact ⟨xs, h1.keep k, paired_imp (fun _ _ r => PrAt.keep k r) h2⟩
def PgAt (H : Hp) (v : V) : Pg → Prop
  | .leaf ps nx => ∃ t q, v = .ref t ∧ H t = some (.tup [.str "leaf", .ref q, .int nx]) ∧ PrT H q ps
  | .node ks kids => ∃ t q1 q2, v = .ref t ∧ H t = some (.tup [.str "node", .ref q1, .ref q2]) ∧ H q1 = some (.tup (ks.map V.int)) ∧ FzT H q2 (kids.map V.int)
theorem PgAt.keep {H H' : Hp} (k : Keep H H') {v : V} : ∀ {g : Pg}, PgAt H v g → PgAt H' v g
  | .leaf _ _, ⟨t, q, e, h1, h2⟩ => ⟨t, q, e, k _ _ h1, h2.keep k⟩
  | .node _ _, ⟨t, q1, q2, e, h1, h2, h3⟩ => ⟨t, q1, q2, e, k _ _ h1, k _ _ h2, h3.keep k⟩
def EnAt (H : Hp) (e : Key × V) (q : Int × Pg) : Prop := e.1 = .inl q.1 ∧ PgAt H e.2 q.2
def DctAt (H : Hp) (d : Addr) (D : List (Int × Pg)) : Prop := ∃ es : List (Key × V), H d = some (.dK es) ∧ Paired (EnAt H) es D
theorem valV_of {H : Hp} {k : Int} : ∀ {es : List (Key × V)} {D : List (Int × Pg)}, Paired (EnAt H) es D → (lkp D k = none ∧ valV es (.inl k) = none) ∨ ∃ g v, lkp D k = some g ∧ valV es (.inl k) = some v ∧ PgAt H v g
  | _, _, .nil => .inl ⟨rfl, rfl⟩
  | e :: es, q :: D, .cons r rs => by
    obtain ⟨r1, r2⟩ := r
    by_cases c : q.1 = k
    · refine .inr ⟨q.2, e.2, ?_, ?_, r2⟩
      · unfold lkp
        rw [List.find?_cons_of_pos (by exact decide_eq_true c)]
        rfl
      · unfold valV
        rw [List.find?_cons_of_pos (by rw [r1, c]; exact decide_eq_true rfl)]
        rfl
    · have c1 : lkp (q :: D) k = lkp D k := by
        unfold lkp
        rw [List.find?_cons_of_neg (by simpa using c)]
      have c2 : valV (e :: es) (.inl k) = valV es (.inl k) := by
        unfold valV
        rw [List.find?_cons_of_neg (by rw [r1]; simpa using c)]
      rw [c1, c2]
      exact valV_of rs
theorem DctAt.put {H : Hp} {es : List (Key × V)} {D : List (Int × Pg)} {k : Int} {v : V} {g : Pg} (h : Paired (EnAt H) es D) (hn : lkp D k = none) (hv : PgAt H v g) : Paired (EnAt H) (putK es (.inl k) v) (D ++ [(k, g)]) := by
  have e : putK es (.inl k) v = es ++ [(.inl k, v)] := by
    unfold putK
    rw [if_neg]
    intro z
    obtain ⟨x, hx, hx2⟩ := List.any_eq_true.mp z
    obtain ⟨i, hi⟩ := List.getElem?_of_mem hx
    obtain ⟨q, hq, r1, _⟩ := pget1 h hi
    have hx3 := of_decide_eq_true hx2
    rw [r1] at hx3
    exact lkp_ne hn q (List.mem_of_getElem? hq) (by injection hx3)
  rw [e]
  exact paired_snoc ⟨rfl, hv⟩ h
theorem pr_ne {H : Hp} {a q : Addr} {xs : List V} {ps : List (Int × Int)} {is : List Int} (h : H a = some (.lst xs)) (hp : Paired (PrAt H) xs ps) (hq : H q = some (.lst (is.map V.int))) (ne : ps ≠ [] ∨ is ≠ []) : a ≠ q := fun e => by
  rw [e, hq] at h
  have e2 : xs = is.map V.int := by injection h with h; injection h with h; exact h.symm
  subst e2
  cases is with
  | nil =>
    cases hp
    rcases ne with ne | ne <;> exact ne rfl
  | cons i is =>
    cases hp with
    | cons r rs =>
      obtain ⟨t, e, _⟩ := r
      cases e
/-- all but four stay -/
def But4 (p r n d : Addr) (H H' : Hp) : Prop := ∀ b o, b ≠ p → b ≠ r → b ≠ n → b ≠ d → H b = some o → H' b = some o
theorem But4.refl (p r n d : Addr) (H : Hp) : But4 p r n d H H := fun _ _ _ _ _ _ e => e
theorem But4.trans {p r n d : Addr} {H H1 H2 : Hp} (a : But4 p r n d H H1) (b : But4 p r n d H1 H2) : But4 p r n d H H2 := fun c o h1 h2 h3 h4 e => b c o h1 h2 h3 h4 (a c o h1 h2 h3 h4 e)
theorem But4.same {p r n d : Addr} {H H1 H2 : Hp} (a : But4 p r n d H H1) (b : Same H1 H2) : But4 p r n d H H2 := fun c o h1 h2 h3 h4 e => b c o (a c o h1 h2 h3 h4 e)
theorem But4.new {p r n d q : Addr} {H H1 : Hp} {o : HO} (a : But4 p r n d H H1) (h : H1 q = none) : But4 p r n d H (upd H1 q o) := a.same (same_new h)
theorem But4.put {p r n d q : Addr} {H H1 : Hp} {o : HO} (a : But4 p r n d H H1) (h : q = p ∨ q = r ∨ q = n ∨ q = d) : But4 p r n d H (upd H1 q o) := fun c o h1 h2 h3 h4 e => by
  rw [upd_ne (by rintro rfl; rcases h with h | h | h | h <;> contradiction)]
  exact a c o h1 h2 h3 h4 e
theorem PotOk.put {H : Hp} {p q : Addr} {B : Int} {o : HO} (h : PotOk H p B) (e : p ≠ q) : PotOk (upd H q o) p B := by
  obtain ⟨x, y, c, h1, r⟩ := h
  exact ⟨x, y, c, by rw [upd_ne e]; exact h1, r⟩
theorem four {H : Hp} {p r n d q : Addr} {B : Int} {u : HO} {v w : HO} (hp : PotOk H p B) (h1 : H r = some u) (h2 : H n = some v) (h3 : H d = some w) (hq : H q = none) : q ≠ p ∧ q ≠ r ∧ q ≠ n ∧ q ≠ d := by
  obtain ⟨x, y, c, h0, _⟩ := hp
  exact ⟨(ne_of_none h0 hq).symm, (ne_of_none h1 hq).symm, (ne_of_none h2 hq).symm, (ne_of_none h3 hq).symm⟩
structure Dif (p r n d : Addr) : Prop where
  pr : p ≠ r
  pn : p ≠ n
  pd : p ≠ d
  rn : r ≠ n
  rd : r ≠ d
  nd : n ≠ d
/-- what is left: pairs, numbers, the last key -/
def RestAt (H : Hp) (p r n d : Addr) (ps : List (Int × Int)) (ns : List Int) (last : Int) : Prop :=
  ∃ a, H r = some (.lst [.ref a, .ref n, .int last]) ∧ PrsAt H a ps ∧ H n = some (.lst (ns.map V.int)) ∧ a ≠ p ∧ a ≠ r ∧ a ≠ n ∧ a ≠ d
/-- tuples stay where only these four change, none of which is one -/
theorem But4.keep {p r n d : Addr} {H H' : Hp} {B : Int} {ps : List (Int × Int)} {ns : List Int} {last : Int} {D : List (Int × Pg)} (b : But4 p r n d H H') (hp : PotOk H p B) (hr : RestAt H p r n d ps ns last) (hd : DctAt H d D) : Keep H H' := ⟨fun c u tu h => by
  obtain ⟨a, h1, _, h2, _⟩ := hr
  obtain ⟨es, h3, _⟩ := hd
  refine b c _ (tpb_no hp.noTup tu h) (fun z => ?_) (fun z => ?_) (fun z => ?_) h <;> subst z
  · rw [h1] at h; cases h; cases tu
  · rw [h2] at h; cases h; cases tu
  · rw [h3] at h; cases h; cases tu⟩
section
variable {P : Program} {w : World} {K : PySem.W.Frag} {mg : Str → Option Value} {base : Heap}
structure LaidIn (H : Hp) (l room : Nat) (s : Sh l) (p r n d : Addr) (ps : List (Int × Int)) (ns : List Int) (D : List (Int × Pg)) (last B : Int) : Prop where
  r3 : 3 ≤ room
  r8 : room ≤ 8
  pot : PotOk H p B
  bound : B + (pgsS l s : Int) < 2 ^ 39
  rest : RestAt H p r n d ps ns last
  dct : DctAt H d D
  dif : Dif p r n d
  ok : PrsOk ps
  above : Above ps last
  last0 : -1 ≤ last
  last9 : last ≤ 1000000000
  many : cntS l s ≤ ps.length
  numbers : pgsS l s ≤ ns.length
  nodup : ns.Nodup
  fresh : ∀ k ∈ ns, lkp D k = none
  few : ps.length ≤ 100000
  few2 : D.length + ns.length ≤ 100000
def sp_law_laid (N : Nat) : Sp := fun vs H Q _ => ∃ (l room : Nat) (top : Bool) (v : V) (s : Sh l) (p r n d : Addr) (ps : List (Int × Int)) (ns : List Int) (D : List (Int × Pg)) (last B : Int), vs = [.ref p, v, .ref r, .ref d] ∧ l < N ∧ WfSh room l top s ∧ ShAt H l v s ∧
  LaidIn H l room s p r n d ps ns D last B ∧
  ∀ (H' : Hp) (t : Tr l) (D' : List (Int × Pg)) (last' : Int), But4 p r n d H H' → PotOk H' p (B + (pgsS l s : Int) - 1) → RestAt H' p r n d (ps.drop (cntS l s)) (ns.drop (pgsS l s)) last' → DctAt H' d (D ++ D') → Gen l s t ps ns D D' last last' → Q (.int (num l t)) H'
end
end K40

namespace K40
open PySem PySem.Spec PyProof.Rows L2 RZ HX TR RP EQT
/-! any thing that is tracked -/
def isInt : V → Bool
  | .int _ => true
  | _ => false
def isI : V → Int → Int → Bool
  | .int i, a, b => decide (a ≤ i) && decide (i ≤ b)
  | _, _, _ => false
def isTxt : V → Bool
  | .str _ => true
  | _ => false
def isBl : V → Bool
  | .bl _ => true
  | _ => false
theorem kt {K : PySem.W.Frag} (T C : String) (b : Bool) (h : kitB T C = some b) : PySem.W.kitOne K (.type T) (.type C) = some b := kit_ty h
/-- a thing that is no tuple -/
def NTup (K : PySem.W.Frag) (H : Hp) (x : V) : Prop := (∃ a xs, x = .ref a ∧ SqL K H a xs) ∨ (∃ a kvs, x = .ref a ∧ H a = some (.dK kvs)) ∨ scal x (.str Str.empty) = true
theorem NTup.thg {K : PySem.W.Frag} {H : Hp} {x : V} (h : NTup K H x) : Thg K H x := by
  rcases h with h | h | h
  · exact .inl h
  · exact .inr (.inr (.inl h))
  · exact .inr (.inr (.inr h))
theorem tySq {K : PySem.W.Frag} {H : Hp} {a : Addr} {xs : List V} (h : SqL K H a xs) : TyX K H (.ref a) (.type "list") := by
  rcases h with h | ⟨o, its, n, hk, hc, hd⟩
  · rcases h with h | ⟨o, h⟩
    · exact .base (.lst h)
    · exact .base (.frz h)
  · exact .kList hk hc
theorem tyTp {K : PySem.W.Frag} {H : Hp} {a : Addr} {xs : List V} (h : SqT K H a xs) : TyX K H (.ref a) (.type "tuple") := by
  rcases h with h | ⟨o, its, n, hk, hc, hd⟩
  · rcases h with h | ⟨o, h⟩
    · exact .base (.tup h)
    · exact .fTuple h
  · exact .kTuple hk hc
/-- its type, and what that says of the classes that are asked for -/
theorem thg_ty {K : PySem.W.Frag} {H : Hp} {x : V} (h : Thg K H x) : ∃ t, TyX K H x t ∧ PySem.W.kitOne K t (.type "int") = some (isInt x || isBl x) ∧ PySem.W.kitOne K t (.type "bool") = some (isBl x) ∧ PySem.W.kitOne K t (.type "str") = some (isTxt x) := by
  rcases h with ⟨a, xs, rfl, ha⟩ | ⟨a, xs, rfl, ha⟩ | ⟨a, kvs, rfl, ha⟩ | hs
  · exact ⟨_, tySq ha, kt "list" "int" false (by decide +kernel), kt "list" "bool" false (by decide +kernel), kt "list" "str" false (by decide +kernel)⟩
  · exact ⟨_, tyTp ha, kt "tuple" "int" false (by decide +kernel), kt "tuple" "bool" false (by decide +kernel), kt "tuple" "str" false (by decide +kernel)⟩
  · exact ⟨_, .base (.dK ha), kt "dict" "int" false (by decide +kernel), kt "dict" "bool" false (by decide +kernel), kt "dict" "str" false (by decide +kernel)⟩
  · cases x with
    | str t => exact ⟨_, .base (.str _), kt "str" "int" false (by decide +kernel), kt "str" "bool" false (by decide +kernel), kt "str" "str" true (by decide +kernel)⟩
    | non => exact ⟨_, .base .non, kt "NoneType" "int" false (by decide +kernel), kt "NoneType" "bool" false (by decide +kernel), kt "NoneType" "str" false (by decide +kernel)⟩
    | int i => exact ⟨_, .base (.int _), kt "int" "int" true (by decide +kernel), kt "int" "bool" false (by decide +kernel), kt "int" "str" false (by decide +kernel)⟩
    | bl b => exact ⟨_, .base (.bl _), kt "bool" "int" true (by decide +kernel), kt "bool" "bool" true (by decide +kernel), kt "bool" "str" false (by decide +kernel)⟩
    | _ => exact absurd hs (by simp [scal])
theorem ntup_ty {K : PySem.W.Frag} {H : Hp} {x : V} (h : NTup K H x) : ∃ t, TyX K H x t ∧ PySem.W.kitOne K t (.type "tuple") = some false := by
  rcases h with ⟨a, xs, rfl, ha⟩ | ⟨a, kvs, rfl, ha⟩ | hs
  · exact ⟨_, tySq ha, kt "list" "tuple" false (by decide +kernel)⟩
  · exact ⟨_, .base (.dK ha), kt "dict" "tuple" false (by decide +kernel)⟩
  · cases x with
    | str t => exact ⟨_, .base (.str _), kt "str" "tuple" false (by decide +kernel)⟩
    | non => exact ⟨_, .base .non, kt "NoneType" "tuple" false (by decide +kernel)⟩
    | int i => exact ⟨_, .base (.int _), kt "int" "tuple" false (by decide +kernel)⟩
    | bl b => exact ⟨_, .base (.bl _), kt "bool" "tuple" false (by decide +kernel)⟩
    | _ => exact absurd hs (by simp [scal])
theorem tup_ty {K : PySem.W.Frag} : PySem.W.kitOne K (.type "tuple") (.type "tuple") = some true := kit_ty (by decide +kernel)
def G9 : Int := 1000000000
/-- a deed by its parts -/
def deedX : List V → Bool
  | [w, k] => (isStr w "find" || isStr w "drop") && isI k 0 G9
  | [w, k, v] => if isStr w "put" = true then isI k 0 G9 && isI v 0 G9 else (isStr w "span" || isStr w "walk") && (isI k 0 G9 && match k with | .int i => isI v (i + 1) (G9 + 1) | _ => false)
  | _ => false
/-- a tuple of things, or a thing that is none -/
def TThg (K : PySem.W.Frag) (H : Hp) (x : V) (r : Bool) : Prop := (∃ a xs, x = .ref a ∧ SqT K H a xs ∧ (∀ y ∈ xs, Thg K H y) ∧ r = deedX xs) ∨ (NTup K H x ∧ r = false)
section
variable {P : Program} {w : World} {K : PySem.W.Frag} {mg : Str → Option Value} {base : Heap}
def sp_is_whole (K : PySem.W.Frag) : Sp := fun vs H Q _ => ∃ x : V, vs = [x] ∧ Thg K H x ∧ Q (.bl (isInt x)) H
theorem ok_is_whole (T : TX K mg) : FnOk P w K mg base CX0 1 (He.ga K "is_whole") T.fd_is_whole ["thing"] (sp_is_whole K) := by
  refine T.F_is_whole.ok sc_is_whole (fun vs H Q E h => ?_) (fun cdv A outer st H vs Q E hr h => ?_)
  · obtain ⟨i, rfl, _⟩ := h
    rfl
  · obtain ⟨x, rfl, hx, kq⟩ := h
    refine ⟨_, PSs.nox (pss_one (ps_ret (pe_and (pe_callB call_isi rfl T.n_isinstance (by decide +kernel) (pa_cons (pv 0) (pa_cons (pe_ty "int" T.n_int (by decide +kernel)) pa_nil))) (pe_one (pe_not (pe_callB call_isi rfl T.n_isinstance (by decide +kernel) (pa_cons (pv 0) (pa_cons (pe_ty "bool" T.n_bool (by decide +kernel)) pa_nil)))))))), ?_⟩
    obtain ⟨t, h1, h2, h3, _⟩ := thg_ty hx
    refine ⟨_, rfl, _, _, t, .type "int", _, rfl, .ty "int", h1, h2, ?_⟩
    cases x with
    | int i => exact ⟨_, rfl, iteT ⟨_, rfl, _, _, t, .type "bool", _, rfl, .ty "bool", h1, h3, _, rfl, kq⟩⟩
    | bl b => exact ⟨_, rfl, iteT ⟨_, rfl, _, _, t, .type "bool", _, rfl, .ty "bool", h1, h3, _, rfl, kq⟩⟩
    | _ => exact ⟨_, rfl, iteF kq⟩
def sp_is_between (K : PySem.W.Frag) : Sp := fun vs H Q _ => ∃ (x : V) (a b : Int), vs = [x, .int a, .int b] ∧ Thg K H x ∧ Q (.bl (isI x a b)) H
theorem ok_is_between (T : TX K mg) : FnOk P w K mg base CX0 2 (He.ga K "is_between") T.fd_is_between ["thing", "low", "high"] (sp_is_between K) := by
  have G_is_whole : FnOk P w K mg base CX0 1 (He.ga K "is_whole") T.fd_is_whole ["thing"] (sp_is_whole K) := ok_is_whole T
  have b_is_whole := b_is_whole T
  refine T.F_is_between.ok sc_is_between (fun vs H Q E h => ?_) (fun cdv A outer st H vs Q E hr h => ?_)
  · obtain ⟨i, a, b, rfl, _⟩ := h
    rfl
  · obtain ⟨x, a, b, rfl, hx, kq⟩ := h
    refine ⟨_, PSs.nox (pss_one (ps_ret (pe_and (pe_call G_is_whole (hr.mono (by first | decide | omega)) rfl T.g_is_whole T.F_is_whole.kp b_is_whole .nil pass0 (pa_cons (pv 0) pa_nil)) (pe_one (pe_chain op_le op_le (pv 1) (pv 0) (pv 2)))))), ?_⟩
    refine ⟨_, rfl, x, rfl, hx, _, rfl, ?_⟩
    cases x with
    | int i =>
      refine iteT ⟨_, rfl, _, rfl, _, _, rfl, rfl, _, rfl, ?_⟩
      replace kq : Q (.bl (decide (a ≤ i) && decide (i ≤ b))) H := kq
      cases c : decide (a ≤ i) with
      | true =>
        rw [c] at kq
        exact iteT ⟨_, rfl, _, _, rfl, rfl, kq⟩
      | false =>
        rw [c] at kq
        exact iteF kq
    | _ => exact iteF kq
def sp_is_rng (K : PySem.W.Frag) (a b : Int) : Sp := fun vs H Q _ => ∃ x : V, vs = [x] ∧ Thg K H x ∧ Q (.bl (isI x a b)) H
def isStretch : V → V → Bool
  | .int i, v => isI (.int i) 0 G9 && isI v (i + 1) (G9 + 1)
  | _, _ => false
def sp_is_stretch (K : PySem.W.Frag) : Sp := fun vs H Q _ => ∃ x y : V, vs = [x, y] ∧ Thg K H x ∧ Thg K H y ∧ Q (.bl (isStretch x y)) H
def sp_is_row (K : PySem.W.Frag) : Sp := fun vs H Q _ => ∃ (x : V) (n : Nat), vs = [x, .int (n : Int)] ∧ ((∃ a xs, x = .ref a ∧ SqT K H a xs ∧ Q (.bl (decide (xs.length = n))) H) ∨ (NTup K H x ∧ Q (.bl false) H))
theorem ok_is_row (T : TX K mg) : FnOk P w K mg base CX0 1 (He.ga K "is_row") T.fd_is_row ["thing", "many"] (sp_is_row K) := by
  refine T.F_is_row.ok sc_is_row (fun vs H Q E h => ?_) (fun cdv A outer st H vs Q E hr h => ?_)
  · obtain ⟨x, n, rfl, _⟩ := h
    rfl
  · obtain ⟨x, n, rfl, hx⟩ := h
    refine ⟨_, PSs.nox (pss_one (ps_ret (pe_and (pe_callB call_isi rfl T.n_isinstance (by decide +kernel) (pa_cons (pv 0) (pa_cons (pe_ty "tuple" T.n_tuple (by decide +kernel)) pa_nil))) (pe_one (pe_cmpR op_eq (pe_callB call_len_seq rfl T.n_len PySem.boot_len (pa_cons (pv 0) pa_nil)) (pv 1) (nomark _)))))), ?_⟩
    rcases hx with ⟨a, xs, rfl, ha, kq⟩ | ⟨hx, kq⟩
    · refine ⟨_, rfl, _, _, .type "tuple", .type "tuple", true, rfl, .ty "tuple", tyTp ha, kt "tuple" "tuple" true (by decide +kernel), true, rfl, ?_⟩
      refine iteT ⟨_, rfl, a, _, rfl, .inr ha, _, rfl, rfl, ?_⟩
      have e : decide (V.int (xs.length : Int) = V.int (n : Int)) = decide (xs.length = n) := by
        by_cases c : xs.length = n
        · rw [decide_eq_true c, c]
          exact decide_eq_true rfl
        · rw [decide_eq_false c]
          exact decide_eq_false fun z => c (by injection z with z; omega)
      rw [e]
      exact kq
    · obtain ⟨t, h1, h2⟩ := ntup_ty hx
      exact ⟨_, rfl, _, _, t, .type "tuple", false, rfl, .ty "tuple", h1, h2, false, rfl, iteF kq⟩
theorem sqT_same {H H' : Hp} {a : Addr} {xs : List V} (s : Same H H') (h : SqT K H a xs) : SqT K H' a xs := by
  rcases h with h | h
  · rcases h with h | ⟨o, h⟩
    · exact .inl (.inl (s _ _ h))
    · exact .inl (.inr ⟨o, s _ _ h⟩)
  · exact .inr h
theorem Thg.same {H H' : Hp} {x : V} (s : Same H H') (h : Thg K H x) : Thg K H' x := by
  rcases h with ⟨a, xs, e, ha⟩ | ⟨a, xs, e, ha⟩ | ⟨a, kvs, e, ha⟩ | hs
  · exact .inl ⟨a, xs, e, s.seq ha⟩
  · exact .inr (.inl ⟨a, xs, e, sqT_same s ha⟩)
  · exact .inr (.inr (.inl ⟨a, kvs, e, s _ _ ha⟩))
  · exact .inr (.inr (.inr hs))
def sp_is_deed (K : PySem.W.Frag) : Sp := fun vs H Q _ => ∃ (x : V) (r : Bool), vs = [x] ∧ TThg K H x r ∧ ∀ H', Same H H' → Q (.bl r) H'
end
end K40

namespace K40
open PySem PySem.Spec PyProof.Rows L2 RZ HX TR RP EQT
/-! things by levels: rows of rows of things, whatever they are -/
theorem Thg.but {K : PySem.W.Frag} {H H' : Hp} {p : Addr} {x : V} (b : But p H H') (ne : x ≠ .ref p) (h : Thg K H x) : Thg K H' x := by
  have nq : ∀ a, x = .ref a → a ≠ p := fun a e z => ne (by rw [e, z])
  rcases h with ⟨a, xs, e, ha⟩ | ⟨a, xs, e, ha⟩ | ⟨a, kvs, e, ha⟩ | hs
  · refine .inl ⟨a, xs, e, ?_⟩
    rcases ha with (h | ⟨o, h⟩) | h
    · exact .inl (.inl (b _ _ (nq a e) h))
    · exact .inl (.inr ⟨o, b _ _ (nq a e) h⟩)
    · exact .inr h
  · refine .inr (.inl ⟨a, xs, e, ?_⟩)
    rcases ha with (h | ⟨o, h⟩) | h
    · exact .inl (.inl (b _ _ (nq a e) h))
    · exact .inl (.inr ⟨o, b _ _ (nq a e) h⟩)
    · exact .inr h
  · exact .inr (.inr (.inl ⟨a, kvs, e, b _ _ (nq a e) ha⟩))
  · exact .inr (.inr (.inr hs))
theorem NTup.but {K : PySem.W.Frag} {H H' : Hp} {p : Addr} {x : V} (b : But p H H') (ne : x ≠ .ref p) (h : NTup K H x) : NTup K H' x := by
  have nq : ∀ a, x = .ref a → a ≠ p := fun a e z => ne (by rw [e, z])
  rcases h with ⟨a, xs, e, ha⟩ | ⟨a, kvs, e, ha⟩ | hs
  · refine .inl ⟨a, xs, e, ?_⟩
    rcases ha with (h | ⟨o, h⟩) | h
    · exact .inl (.inl (b _ _ (nq a e) h))
    · exact .inl (.inr ⟨o, b _ _ (nq a e) h⟩)
    · exact .inr h
  · exact .inr (.inl ⟨a, kvs, e, b _ _ (nq a e) ha⟩)
  · exact .inr (.inr hs)
theorem ref_ne {a p : Addr} (h : p ≠ a) : V.ref a ≠ V.ref p := fun z => h (by injection z with z; exact z.symm)
theorem sqT_but {K : PySem.W.Frag} {H H' : Hp} {p a : Addr} {xs : List V} (b : But p H H') (ne : a ≠ p) (h : SqT K H a xs) : SqT K H' a xs := by
  rcases h with (h | ⟨o, h⟩) | h
  · exact .inl (.inl (b _ _ ne h))
  · exact .inl (.inr ⟨o, b _ _ ne h⟩)
  · exact .inr h
theorem scal_thg {K : PySem.W.Frag} {H : Hp} {x : V} (h : scal x (.str Str.empty) = true) : Thg K H x := .inr (.inr (.inr h))
theorem cut_mem {xs : List V} {lo hi : Option Int} {y : V} (h : y ∈ cutV xs lo hi) : y ∈ xs := by
  unfold cutV at h
  exact List.mem_of_mem_drop (List.mem_of_mem_take h)
/-- a part of a row of anything -/
def cutA {α : Type} (rs : List α) (lo hi : Option Int) : List α := (rs.drop (HT.sIx rs.length 0 lo)).take (HT.sIx rs.length rs.length hi - HT.sIx rs.length 0 lo)
theorem cut_paired {α : Type} {R : V → α → Prop} {xs : List V} {rs : List α} (h : Paired R xs rs) (lo hi : Option Int) : Paired R (cutV xs lo hi) (cutA rs lo hi) := by
  have e := h.length
  unfold cutV cutA
  rw [e]
  exact paired_take _ (paired_drop _ h)
theorem cutA_mem {α : Type} {rs : List α} {lo hi : Option Int} {y : α} (h : y ∈ cutA rs lo hi) : y ∈ rs := by
  unfold cutA at h
  exact List.mem_of_mem_drop (List.mem_of_mem_take h)
theorem cutA_length {α : Type} {rs : List α} {lo hi : Option Int} : (cutA rs lo hi).length ≤ rs.length := by
  unfold cutA
  rw [List.length_take, List.length_drop]
  omega
theorem cutA_map {α β : Type} (f : α → β) (rs : List α) (lo hi : Option Int) : (cutA rs lo hi).map f = cutA (rs.map f) lo hi := by
  unfold cutA
  rw [List.map_take, List.map_drop, List.length_map]
def L0 (K : PySem.W.Frag) (p : Addr) (H : Hp) (x v : V) : Prop := v = x ∧ Thg K H x ∧ x ≠ .ref p
def Lv {α : Type} (K : PySem.W.Frag) (p : Addr) (R : Hp → V → α → Prop) (H : Hp) (x : V) (r : Option (List α)) : Prop :=
  x ≠ .ref p ∧ ((∃ a xs rs, x = .ref a ∧ SqT K H a xs ∧ Paired (R H) xs rs ∧ r = some rs) ∨ (NTup K H x ∧ r = none))
/-- what stays where only the pot changes -/
structure Stb {α : Type} (p : Addr) (R : Hp → V → α → Prop) : Prop where
  but : ∀ {H H' : Hp} {x : V} {r : α}, But p H H' → R H x r → R H' x r
  ne : ∀ {H : Hp} {x : V} {r : α}, R H x r → x ≠ .ref p
theorem Stb.same {α : Type} {p : Addr} {R : Hp → V → α → Prop} (s : Stb p R) {H H' : Hp} {x : V} {r : α} (k : Same H H') (h : R H x r) : R H' x r := s.but (But.of k) h
theorem stb0 {K : PySem.W.Frag} {p : Addr} : Stb p (L0 K p) := ⟨fun b h => ⟨h.1, Thg.but b h.2.2 h.2.1, h.2.2⟩, fun h => h.2.2⟩
theorem stbS {α : Type} {K : PySem.W.Frag} {p : Addr} {R : Hp → V → α → Prop} (s : Stb p R) : Stb p (Lv K p R) := by
  refine ⟨fun b h => ?_, fun h => h.1⟩
  obtain ⟨ne, h⟩ := h
  refine ⟨ne, ?_⟩
  rcases h with ⟨a, xs, rs, e, ha, hx, er⟩ | ⟨h, er⟩
  · exact .inl ⟨a, xs, rs, e, sqT_but b (fun z => ne (by rw [e, z])) ha, paired_imp (fun _ _ r => s.but b r) hx, er⟩
  · exact .inr ⟨NTup.but b ne h, er⟩
theorem Lv.tup {α : Type} {K : PySem.W.Frag} {p : Addr} {R : Hp → V → α → Prop} {H : Hp} {a : Addr} {xs : List V} {rs : List α} (h : SqT K H a xs) (hx : Paired (R H) xs rs) (ne : p ≠ a) : Lv K p R H (.ref a) (some rs) := ⟨ref_ne ne, .inl ⟨a, xs, rs, rfl, h, hx, rfl⟩⟩
theorem Lv.non {α : Type} {K : PySem.W.Frag} {p : Addr} {R : Hp → V → α → Prop} {H : Hp} {x : V} (h : NTup K H x) (ne : x ≠ .ref p) : Lv K p R H x none := ⟨ne, .inr ⟨h, rfl⟩⟩
theorem Lv.thg {α : Type} {K : PySem.W.Frag} {p : Addr} {R : Hp → V → α → Prop} {H : Hp} {x : V} {r : Option (List α)} (h : Lv K p R H x r) : L0 K p H x x := by
  obtain ⟨ne, h⟩ := h
  refine ⟨rfl, ?_, ne⟩
  rcases h with ⟨a, xs, rs, e, ha, _⟩ | ⟨h, _⟩
  · exact .inr (.inl ⟨a, xs, e, ha⟩)
  · exact h.thg
theorem paired_app {α : Type} {R : V → α → Prop} : ∀ {xs ys : List V} {rs ss : List α}, Paired R xs rs → Paired R ys ss → Paired R (xs ++ ys) (rs ++ ss)
  | _, _, _, _, .nil, h => h
  | _, _, _, _, .cons r rs, h => .cons r (paired_app rs h)
theorem paired_one {α : Type} {R : V → α → Prop} {x : V} {r : α} (h : R x r) : Paired R [x] [r] := .cons h .nil
/-- things that may stand at each of three levels -/
def Bd2 {α : Type} (r : Option (List α)) : Prop := ∀ ss, r = some ss → ss.length ≤ 1000
def Bd3 {α : Type} (r : Option (List (Option (List α)))) : Prop := ∀ ps, r = some ps → ∀ o ∈ ps, Bd2 o
def Any3 (K : PySem.W.Frag) (p : Addr) (H : Hp) (x : V) : Prop := (∃ r, Lv K p (L0 K p) H x r) ∧ (∃ r, Lv K p (Lv K p (L0 K p)) H x r ∧ Bd2 r) ∧ (∃ r, Lv K p (Lv K p (Lv K p (L0 K p))) H x r ∧ Bd3 r)
theorem Any3.but {K : PySem.W.Frag} {p : Addr} {H H' : Hp} {x : V} (b : But p H H') (h : Any3 K p H x) : Any3 K p H' x := by
  obtain ⟨⟨r1, h1⟩, ⟨r2, h2, g2⟩, ⟨r3, h3, g3⟩⟩ := h
  exact ⟨⟨r1, (stbS stb0).but b h1⟩, ⟨r2, (stbS (stbS stb0)).but b h2, g2⟩, ⟨r3, (stbS (stbS (stbS stb0))).but b h3, g3⟩⟩
theorem Any3.non {K : PySem.W.Frag} {p : Addr} {H : Hp} {x : V} (h : NTup K H x) (ne : x ≠ .ref p) : Any3 K p H x := ⟨⟨_, Lv.non h ne⟩, ⟨_, Lv.non h ne, nofun⟩, ⟨_, Lv.non h ne, nofun⟩⟩
theorem lv_all {α : Type} {K : PySem.W.Frag} {p : Addr} {R : Hp → V → α → Prop} {C : α → Prop} {H : Hp} : ∀ {xs : List V}, (∀ y ∈ xs, ∃ r, R H y r ∧ C r) → ∃ rs, Paired (R H) xs rs ∧ ∀ r ∈ rs, C r
  | [], _ => ⟨[], .nil, nofun⟩
  | x :: xs, h => by
    obtain ⟨r, hr, hc⟩ := h x (List.mem_cons_self ..)
    obtain ⟨rs, hrs, hcs⟩ := lv_all (K := K) (p := p) fun y hy => h y (List.mem_cons_of_mem _ hy)
    refine ⟨r :: rs, .cons hr hrs, fun q hq => ?_⟩
    rcases List.mem_cons.mp hq with rfl | hq
    · exact hc
    · exact hcs q hq
theorem Any3.tup {K : PySem.W.Frag} {p : Addr} {H : Hp} {a : Addr} {xs : List V} (h : SqT K H a xs) (ne : p ≠ a) (hl : xs.length ≤ 1000) (hx : ∀ y ∈ xs, Any3 K p H y) : Any3 K p H (.ref a) := by
  obtain ⟨r1, h1, _⟩ := lv_all (K := K) (p := p) (R := L0 K p) (C := fun _ => True) fun y hy => let ⟨_, z⟩ := (hx y hy).1; ⟨y, z.thg, trivial⟩
  obtain ⟨r2, h2, _⟩ := lv_all (K := K) (p := p) (R := Lv K p (L0 K p)) (C := fun _ => True) fun y hy => let ⟨r, z⟩ := (hx y hy).1; ⟨r, z, trivial⟩
  obtain ⟨r3, h3, c3⟩ := lv_all (K := K) (p := p) (R := Lv K p (Lv K p (L0 K p))) (C := Bd2) fun y hy => (hx y hy).2.1
  refine ⟨⟨_, Lv.tup h h1 ne⟩, ⟨_, Lv.tup h h2 ne, fun ss e => ?_⟩, ⟨_, Lv.tup h h3 ne, fun ps e => ?_⟩⟩
  · cases e
    rw [← h2.length]
    exact hl
  · cases e
    exact c3
/-- a row of such things, with its items -/
structure Tx {α : Type} (K : PySem.W.Frag) (p : Addr) (R : Hp → V → α → Prop) (H : Hp) (a : Addr) (xs : List V) (rs : List α) : Prop where
  ne : p ≠ a
  sq : SqT K H a xs
  pr : Paired (R H) xs rs
section
variable {α : Type} {K : PySem.W.Frag} {p : Addr} {R : Hp → V → α → Prop} {H H' : Hp} {a b q : Addr} {xs ys : List V} {rs ss : List α} {B : Int}
theorem Tx.lv (h : Tx K p R H a xs rs) : Lv K p R H (.ref a) (some rs) := Lv.tup h.sq h.pr h.ne
theorem Tx.but (s : Stb p R) (k : But p H H') (h : Tx K p R H a xs rs) : Tx K p R H' a xs rs := ⟨h.ne, sqT_but k h.ne.symm h.sq, paired_imp (fun _ _ r => s.but k r) h.pr⟩
theorem Tx.cut (s : Stb p R) (h : Tx K p R H a xs rs) (hp : PotOk H p B) (k : Same H H') (m : q = a ∨ H q = none) {lo hi : Option Int} (hq : SqT K H' q (cutV xs lo hi)) : Tx K p R H' q (cutV xs lo hi) (cutA rs lo hi) :=
  ⟨m.elim (fun e => e ▸ h.ne) (fun n => hp.ne n), hq, cut_paired (paired_imp (fun _ _ r => s.same k r) h.pr) lo hi⟩
theorem Tx.cat (s : Stb p R) (h : Tx K p R H a xs rs) (g : Tx K p R H b ys ss) (hp : PotOk H p B) (k : Same H H') (m : q = a ∨ q = b ∨ H q = none) (hq : SqT K H' q (xs ++ ys)) : Tx K p R H' q (xs ++ ys) (rs ++ ss) :=
  ⟨m.elim (fun e => e ▸ h.ne) (fun m => m.elim (fun e => e ▸ g.ne) (fun n => hp.ne n)), hq, paired_app (paired_imp (fun _ _ r => s.same k r) h.pr) (paired_imp (fun _ _ r => s.same k r) g.pr)⟩
theorem Tx.new (s : Stb p R) (hx : Paired (R H) xs rs) (hp : PotOk H p B) (k : Same H H') (n : H q = none) (hq : SqT K H' q xs) : Tx K p R H' q xs rs := ⟨hp.ne n, hq, paired_imp (fun _ _ r => s.same k r) hx⟩
theorem Tx.cutl (h : Tx K p R H a xs rs) {n : Nat} (l : xs.length ≤ n) : xs.length ≤ n := l
theorem cat_le {n m : Nat} (h : xs.length ≤ n) (g : ys.length ≤ m) : (xs ++ ys).length ≤ n + m := by
  rw [List.length_append]
  omega
theorem cutV_le {lo hi : Option Int} {n : Nat} (l : xs.length ≤ n) : (cutV xs lo hi).length ≤ n := Nat.le_trans (cutV_length xs lo hi) l
end
theorem paired_rep {α : Type} {R : V → α → Prop} {xs : List V} {rs : List α} (h : Paired R xs rs) : ∀ n : Nat, Paired R (List.replicate n xs).flatten (List.replicate n rs).flatten
  | 0 => .nil
  | n + 1 => by
    rw [List.replicate_succ, List.replicate_succ, List.flatten_cons, List.flatten_cons]
    exact paired_app h (paired_rep h n)
theorem paired_rev {α : Type} {R : V → α → Prop} : ∀ {xs : List V} {rs : List α}, Paired R xs rs → Paired R xs.reverse rs.reverse
  | _, _, .nil => .nil
  | _, _, .cons r rs => by
    rw [List.reverse_cons, List.reverse_cons]
    exact paired_app (paired_rev rs) (paired_one r)
end K40

namespace K40
open PySem PySem.Spec PyProof.Rows L2 RZ HX TR RP EQT
/-! a step, a plan, plans -/
def intV : V → Int
  | .int i => i
  | _ => 0
def stepX : List V → Option (Bool × Int)
  | [w, k] => if (isStr w "let" && isI k 0 60) = true then some (false, intV k) else none
  | [w, k, b] => if (isStr w "take" && (isI k 0 60 && isBl b)) = true then some (true, intV k) else none
  | _ => none
def st1 : Option (List V) → Option (Bool × Int)
  | some xs => stepX xs
  | none => none
def runP : List Int → List (Bool × Int) → Bool
  | held, [] => decide (held = [])
  | held, (t, n) :: r => if t = decide (n ∈ held) then false else if t = true then runP (held ++ [n]) r else runP (held.filter fun m => !decide (m = n)) r
theorem runP_cons {held : List Int} {t : Bool} {n : Int} {r : List (Bool × Int)} : runP held ((t, n) :: r) = if t = decide (n ∈ held) then false else if t = true then runP (held ++ [n]) r else runP (held.filter fun m => !decide (m = n)) r := by
  cases held <;> rfl
def planX (ss : List (Option (List V))) : Bool := decide (ss.length ≤ 16) && (ss.all (fun s => (st1 s).isSome) && runP [] (ss.filterMap st1))
def pl1 : Option (List (Option (List V))) → Bool
  | some ss => planX ss
  | none => false
def plansX (ps : List (Option (List (Option (List V))))) : Bool := (decide (1 ≤ ps.length) && decide (ps.length ≤ 4)) && ps.all pl1
def pp1 : Option (List (Option (List (Option (List V))))) → Bool
  | some ps => plansX ps
  | none => false
theorem step2 {w k : V} : (stepX [w, k]).isSome = (isStr w "let" && isI k 0 60) := by
  show (if (isStr w "let" && isI k 0 60) = true then some (false, intV k) else none).isSome = _
  split
  · rename_i h; rw [h]; rfl
  · rename_i h; rw [eq_false_of_ne_true h]; rfl
theorem step3 {w k b : V} : (stepX [w, k, b]).isSome = (isStr w "take" && (isI k 0 60 && isBl b)) := by
  show (if (isStr w "take" && (isI k 0 60 && isBl b)) = true then some (true, intV k) else none).isSome = _
  split
  · rename_i h; rw [h]; rfl
  · rename_i h; rw [eq_false_of_ne_true h]; rfl
theorem step_none {xs : List V} (h2 : xs.length ≠ 2) (h3 : xs.length ≠ 3) : stepX xs = none := by
  match xs, h2, h3 with
  | [], _, _ => rfl
  | [_], _, _ => rfl
  | [_, _], h, _ => exact (h rfl).elim
  | [_, _, _], _, h => exact (h rfl).elim
  | _ :: _ :: _ :: _ :: _, _, _ => rfl
/-- what a step is, by its parts -/
theorem step_some {xs : List V} {t : Bool} {n : Int} (h : stepX xs = some (t, n)) : (0 ≤ n ∧ n ≤ 60) ∧ ((t = false ∧ xs = [.str "let", .int n]) ∨ (t = true ∧ ∃ b : Bool, xs = [.str "take", .int n, .bl b])) := by
  have one : ∀ {x : V} {z : Str}, isStr x z = true → x = .str z := fun {x z} h => by
    cases x with
    | str t => rw [of_decide_eq_true h]
    | _ => cases h
  have num : ∀ {k : V}, isI k 0 60 = true → ∃ i : Int, k = .int i ∧ 0 ≤ i ∧ i ≤ 60 := fun {k} h => by
    cases k with
    | int i =>
      obtain ⟨c3, c4⟩ := Bool.and_eq_true_iff.mp h
      exact ⟨i, rfl, of_decide_eq_true c3, of_decide_eq_true c4⟩
    | _ => cases h
  match xs, h with
  | [w, k], h =>
    replace h : (if (isStr w "let" && isI k 0 60) = true then some (false, intV k) else none) = some (t, n) := h
    split at h
    · rename_i c
      obtain ⟨c1, c2⟩ := Bool.and_eq_true_iff.mp c
      obtain ⟨i, rfl, c3, c4⟩ := num c2
      cases h
      exact ⟨⟨c3, c4⟩, .inl ⟨rfl, by rw [one c1]; rfl⟩⟩
    · cases h
  | [w, k, b], h =>
    replace h : (if (isStr w "take" && (isI k 0 60 && isBl b)) = true then some (true, intV k) else none) = some (t, n) := h
    split at h
    · rename_i c
      obtain ⟨c1, c2⟩ := Bool.and_eq_true_iff.mp c
      obtain ⟨c5, c6⟩ := Bool.and_eq_true_iff.mp c2
      obtain ⟨i, rfl, c3, c4⟩ := num c5
      cases h
      cases b with
      | bl b => exact ⟨⟨c3, c4⟩, .inr ⟨rfl, b, by rw [one c1]; rfl⟩⟩
      | _ => cases c6
    · cases h
section
variable {P : Program} {w : World} {K : PySem.W.Frag} {mg : Str → Option Value} {base : Heap}
abbrev Stp (K : PySem.W.Frag) (p : Addr) := Lv K p (L0 K p)
abbrev Pln (K : PySem.W.Frag) (p : Addr) := Lv K p (Stp K p)
abbrev Pls (K : PySem.W.Frag) (p : Addr) := Lv K p (Pln K p)
def sp_is_step (K : PySem.W.Frag) : Sp := fun vs H Q _ => ∃ (p : Addr) (x : V) (r : Option (List V)), vs = [x] ∧ Stp K p H x r ∧ Q (.bl (st1 r).isSome) H
theorem l0_list {p : Addr} {H : Hp} : ∀ {xs rs : List V}, Paired (L0 K p H) xs rs → rs = xs ∧ ∀ y ∈ xs, Thg K H y
  | _, _, .nil => ⟨rfl, fun _ h => nomatch h⟩
  | _, _, .cons r rs => by
    obtain ⟨e, h⟩ := l0_list rs
    obtain ⟨e1, h1, _⟩ := r
    refine ⟨by rw [e, e1], fun y hy => ?_⟩
    rcases List.mem_cons.mp hy with rfl | hy
    · exact h1
    · exact h y hy
theorem ok_is_plan_step (T : TX K mg) : FnOk P w K mg base CX0 3 (He.ga K "is_plan_step") T.fd_is_plan_step ["thing"] (sp_is_step K) := by
  have G_is_row : FnOk P w K mg base CX0 1 (He.ga K "is_row") T.fd_is_row ["thing", "many"] (sp_is_row K) := ok_is_row T
  have b_is_row := b_is_row T
  have G_is_between : FnOk P w K mg base CX0 2 (He.ga K "is_between") T.fd_is_between ["thing", "low", "high"] (sp_is_between K) := ok_is_between T
  have b_is_between := b_is_between T
  refine T.F_is_plan_step.ok sc_is_plan_step (fun vs H Q E h => ?_) (fun cdv A outer st H vs Q E hr h => ?_)
  · obtain ⟨p, x, r, rfl, _⟩ := h
    rfl
  · obtain ⟨p, x, r, rfl, ⟨_, hx⟩, kq⟩ := h
    refine ⟨_, PSs.nox (pss_cons (ps_if (pt_val (pe_call G_is_row (hr.mono (by first | decide | omega)) rfl T.g_is_row T.F_is_row.kp b_is_row .nil pass0 (pa_cons (pv 0) (pa_cons pe_int pa_nil))))
 (pss_one (ps_ret (pe_and (pe_cmpR (EQT.op_eqS hr.units0) (pe_ix ix_tup (pv 0) pe_int (fun _ _ => rfl)) pe_str (nomark _)) (pe_and (pe_call G_is_between (hr.mono (by first | decide | omega)) rfl T.g_is_between T.F_is_between.kp b_is_between .nil pass0 (pa_cons (pe_ix ix_tup (pv 0) pe_int (fun _ _ => rfl)) (pa_cons pe_int (pa_cons (pe_gint T.g_LAST_PLANNED) pa_nil)))) (pe_one (pe_callB call_isi rfl T.n_isinstance (by decide +kernel) (pa_cons (pe_ix ix_tup (pv 0) pe_int (fun _ _ => rfl)) (pa_cons (pe_ty "bool" T.n_bool (by decide +kernel)) pa_nil))))))))
 pss_nil)
 (pss_one (ps_ret (pe_and (pe_call G_is_row (hr.mono (by first | decide | omega)) rfl T.g_is_row T.F_is_row.kp b_is_row .nil pass0 (pa_cons (pv 0) (pa_cons pe_int pa_nil))) (pe_and (pe_cmpR (EQT.op_eqS hr.units0) (pe_ix ix_tup (pv 0) pe_int (fun _ _ => rfl)) pe_str (nomark _)) (pe_one (pe_call G_is_between (hr.mono (by first | decide | omega)) rfl T.g_is_between T.F_is_between.kp b_is_between .nil pass0 (pa_cons (pe_ix ix_tup (pv 0) pe_int (fun _ _ => rfl)) (pa_cons pe_int (pa_cons (pe_gint T.g_LAST_PLANNED) pa_nil)))))))))), ?_⟩
    rcases hx with ⟨a, xs, rs, rfl, ha, hp, rfl⟩ | ⟨hx, rfl⟩
    · obtain ⟨rfl, hy⟩ := l0_list hp
      replace kq : Q (.bl (stepX rs).isSome) H := kq
      refine ⟨_, rfl, .ref a, 3, rfl, .inl ⟨a, rs, rfl, ha, ?_⟩⟩
      by_cases c3 : rs.length = 3
      · rw [decide_eq_true c3]
        refine ⟨true, rfl, iteT ?_⟩
        obtain ⟨x0, k, b, rfl⟩ : ∃ x0 k b, rs = [x0, k, b] := by
          match rs, c3 with
          | [x0, k, b], _ => exact ⟨x0, k, b, rfl⟩
        rw [step3] at kq
        have h0 := hy x0 (List.mem_cons_self ..)
        have h1 := hy k (List.mem_cons_of_mem _ (List.mem_cons_self ..))
        have h2 := hy b (List.mem_cons_of_mem _ (List.mem_cons_of_mem _ (List.mem_cons_self ..)))
        refine ⟨_, rfl, a, _, 0, x0, rfl, rfl, ha, rfl, "take", rfl, h0, _, rfl, ?_⟩
        cases c : isStr x0 "take" with
        | false => rw [c] at kq; exact iteF kq
        | true =>
          rw [c] at kq
          refine iteT ⟨_, rfl, a, _, 1, k, rfl, rfl, ha, rfl, k, 0, 60, rfl, h1, _, rfl, ?_⟩
          cases c1 : isI k 0 60 with
          | false => rw [c1] at kq; exact iteF kq
          | true =>
            rw [c1] at kq
            obtain ⟨t, q1, q2, q3, q4⟩ := thg_ty h2
            exact iteT ⟨_, rfl, a, _, 2, b, rfl, rfl, ha, rfl, _, _, t, .type "bool", _, rfl, .ty "bool", q1, q3, kq⟩
      · rw [decide_eq_false c3]
        refine ⟨false, rfl, iteF ?_⟩
        refine ⟨_, rfl, .ref a, 2, rfl, .inl ⟨a, rs, rfl, ha, ?_⟩⟩
        by_cases c2 : rs.length = 2
        · rw [decide_eq_true c2]
          obtain ⟨x0, k, rfl⟩ : ∃ x0 k, rs = [x0, k] := by
            match rs, c2 with
            | [x0, k], _ => exact ⟨x0, k, rfl⟩
          rw [step2] at kq
          have h0 := hy x0 (List.mem_cons_self ..)
          have h1 := hy k (List.mem_cons_of_mem _ (List.mem_cons_self ..))
          refine ⟨true, rfl, iteT ⟨_, rfl, a, _, 0, x0, rfl, rfl, ha, rfl, "let", rfl, h0, _, rfl, ?_⟩⟩
          cases c : isStr x0 "let" with
          | false => rw [c] at kq; exact iteF kq
          | true =>
            rw [c] at kq
            exact iteT ⟨_, rfl, a, _, 1, k, rfl, rfl, ha, rfl, k, 0, 60, rfl, h1, kq⟩
        · rw [decide_eq_false c2]
          rw [step_none c2 c3] at kq
          exact ⟨false, rfl, iteF kq⟩
    · refine ⟨_, rfl, x, 3, rfl, .inr ⟨hx, ?_⟩⟩
      refine ⟨false, rfl, iteF ⟨_, rfl, x, 2, rfl, .inr ⟨hx, false, rfl, iteF kq⟩⟩⟩
/-! a plan -/
theorem stp_x {p : Addr} {H : Hp} {x : V} {r : Option (List V)} {t : Bool} {n : Int} (h : Stp K p H x r) (e : st1 r = some (t, n)) : ∃ (a : Addr) (xs : List V), x = .ref a ∧ SqT K H a xs ∧ (0 ≤ n ∧ n ≤ 60) ∧ ((t = false ∧ xs = [.str "let", .int n]) ∨ (t = true ∧ ∃ b : Bool, xs = [.str "take", .int n, .bl b])) := by
  obtain ⟨_, h⟩ := h
  rcases h with ⟨a, xs, rs, e1, ha, hp, er⟩ | ⟨_, er⟩
  · subst er
    obtain ⟨rfl, _⟩ := l0_list hp
    obtain ⟨h1, h2⟩ := step_some (xs := rs) e
    exact ⟨a, rs, e1, ha, h1, h2⟩
  · subst er
    cases e
theorem fm_all {α β : Type} {f : α → Option β} : ∀ {l : List α}, (l.all fun s => (f s).isSome) = true → ∃ m : List β, l.map f = m.map some ∧ l.filterMap f = m
  | [], _ => ⟨[], rfl, rfl⟩
  | a :: l, h => by
    rw [List.all_cons] at h
    obtain ⟨h1, h2⟩ := Bool.and_eq_true_iff.mp h
    obtain ⟨m, e1, e2⟩ := fm_all h2
    obtain ⟨b, hb⟩ := Option.isSome_iff_exists.mp h1
    exact ⟨b :: m, by rw [List.map_cons, List.map_cons, hb, e1], by rw [List.filterMap_cons, hb, e2]⟩
def sp_is_plan (K : PySem.W.Frag) : Sp := fun vs H Q _ => ∃ (p : Addr) (x : V) (r : Option (List (Option (List V)))), vs = [x] ∧ Pln K p H x r ∧ (∀ ss, r = some ss → ss.length ≤ 1000) ∧ ∀ H', Same H H' → Q (.bl (pl1 r)) H'
theorem valV_unit {ks : List Int} {n : Int} : (valV (ks.map fun k => ((Sum.inl k : Key), V.bl true)) (.inl n)).isSome = decide (n ∈ ks) := by
  induction ks with
  | nil => rfl
  | cons k ks ih =>
    unfold valV at ih ⊢
    rw [List.map_cons, List.find?_cons]
    by_cases c : k = n
    · rw [decide_eq_true (show (Sum.inl k : Key) = Sum.inl n from congrArg Sum.inl c), decide_eq_true (by rw [c]; exact List.mem_cons_self ..)]
      rfl
    · rw [decide_eq_false (fun z => c (by injection z))]
      rw [show decide (n ∈ k :: ks) = decide (n ∈ ks) by
        by_cases m : n ∈ ks
        · rw [decide_eq_true m, decide_eq_true (List.mem_cons_of_mem _ m)]
        · rw [decide_eq_false m, decide_eq_false (fun z => (List.mem_cons.mp z).elim (fun z => c z.symm) m)]]
      exact ih
theorem drop_unit {ks : List Int} {n : Int} : dropK (ks.map fun k => ((Sum.inl k : Key), V.bl true)) (.inl n) = (ks.filter fun m => !decide (m = n)).map fun k => ((Sum.inl k : Key), V.bl true) := by
  unfold dropK
  rw [List.filter_map]
  congr 1
  refine List.filter_congr fun k _ => ?_
  show decide ((Sum.inl k : Key) ≠ Sum.inl n) = !decide (k = n)
  by_cases c : k = n
  · rw [c, decide_eq_true rfl]
    exact decide_eq_false fun z => z rfl
  · rw [decide_eq_false c]
    exact decide_eq_true fun z => c (by injection z)
theorem put_unit {ks : List Int} {n : Int} (h : n ∉ ks) : putK (ks.map fun k => ((Sum.inl k : Key), V.bl true)) (.inl n) (.bl true) = (ks ++ [n]).map fun k => ((Sum.inl k : Key), V.bl true) := by
  rw [RU.putK_new fun q hq => ?_]
  · rw [List.map_append]
    rfl
  · obtain ⟨k, hk, rfl⟩ := List.mem_map.mp hq
    intro z
    have z' : (Sum.inl k : Key) = Sum.inl n := z
    injection z' with z''
    exact h (z'' ▸ hk)
theorem ok_is_plan (T : TX K mg) : FnOk P w K mg base CX0 4 (He.ga K "is_plan") T.fd_is_plan ["thing"] (sp_is_plan K) := by
  have G_is_plan_step : FnOk P w K mg base CX0 3 (He.ga K "is_plan_step") T.fd_is_plan_step ["thing"] (sp_is_step K) := ok_is_plan_step T
  have b_is_plan_step := b_is_plan_step T
  refine T.F_is_plan.ok sc_is_plan (fun vs H Q E h => ?_) (fun cdv A outer st H vs Q E hr h => ?_)
  · obtain ⟨p, x, r, rfl, _⟩ := h
    rfl
  · obtain ⟨p, x, r, rfl, ⟨_, hx⟩, hl, kq⟩ := h
    refine ⟨_, PSs.nox (pss_cons (ps_if (PW.pt (pw_or (pt_not (pt_val (pe_callB call_isi rfl T.n_isinstance (by decide +kernel) (pa_cons (pv 0) (pa_cons (pe_ty "tuple" T.n_tuple (by decide +kernel)) pa_nil))))) (pw_or1 (pt_cmpR op_gt (pe_callB call_len_seq rfl T.n_len PySem.boot_len (pa_cons (pv 0) pa_nil)) (pe_gint T.g_MOST_STEPS) (nomark _)))))
 (pss_one (ps_ret pe_bl))
 pss_nil)
 (pss_cons (ps_if (pt_not (pt_val (pe_callB (cr_all rfl) rfl T.n_all (by decide +kernel) (pa_cons (pe_lc (own := [("step", 1)]) (g := gName 1) (tt := tYes) rfl sc_is_plan.nd (pi_tup (pv 0)) (blkOk_by (own := [("step", 1)]) (N := ["thing", "step", "held"]) (sc := defScope s_is_plan) (by decide +kernel)) (fun _ _ _ _ _ => (pg_name (i := 1) sc_is_plan.nd rfl (Or.inl rfl))) (fun _ _ _ _ _ => pts_nil) (fun _ _ _ _ _ => (pe_call G_is_plan_step (hr.mono (by first | decide | omega)) rfl T.g_is_plan_step T.F_is_plan_step.kp b_is_plan_step .nil pass0 (pa_cons (pv 1) pa_nil)))) pa_nil))))
 (pss_one (ps_ret pe_bl))
 pss_nil)
 (pss_cons (ps_set (i := 2) sc_is_plan.nd rfl (Or.inl rfl) pe_dnewK)
 (pss_cons (ps_for PassesOwn.never rfl (pi_tup (pv 0)) (pg_name (i := 1) sc_is_plan.nd rfl (Or.inl rfl))
 (pss_cons (ps_if (pt_cmpR op_eq (pe_cmpR op_eq (pe_ix ix_tup (pv 1) pe_int (fun _ _ => rfl)) pe_str (nomark _)) (pe_cmp (pc_din (hu_of hr) (pe_ix ix_tup (pv 1) pe_int (fun _ _ => rfl)) (pv 2)) rfl) (nomark _))
 (pss_one (ps_ret pe_bl))
 pss_nil)
 (pss_one (ps_if (pt_cmpR op_eq (pe_ix ix_tup (pv 1) pe_int (fun _ _ => rfl)) pe_str (nomark _))
 (pss_one (ps_dput (hu_of hr) (pv 2) (pe_ix ix_tup (pv 1) pe_int (fun _ _ => rfl)) pe_bl rfl))
 (pss_one (ps_ddel (pv 2) (pe_ix ix_tup (pv 1) pe_int (fun _ _ => rfl))))))))
 (pss_one (ps_ret (pe_notT (pv 2)))))))), ?_⟩
    rcases hx with ⟨a, xs, ss, rfl, ha, hp, rfl⟩ | ⟨hx, rfl⟩
    · refine ⟨_, rfl, _, _, .type "tuple", .type "tuple", true, rfl, .ty "tuple", tyTp ha, kt "tuple" "tuple" true (by decide +kernel), true, rfl, iteF ?_⟩
      have hlen := hp.length
      have l9 := hl ss rfl
      replace kq : ∀ H', Same H H' → Q (.bl (planX ss)) H' := kq
      refine ⟨_, rfl, a, _, rfl, .inr ha, _, _, rfl, rfl, _, rfl, ?_⟩
      by_cases c16 : (xs.length : Int) > 16
      · rw [decide_eq_true c16]
        have z := kq H (Same.refl H)
        unfold planX at z
        rw [decide_eq_false (by omega : ¬ ss.length ≤ 16)] at z
        exact iteT z
      · rw [decide_eq_false c16]
        refine iteF ?_
        refine ⟨_, rfl, a, rfl, ⟨_, ha⟩, fun D hD => ?_⟩
        refine lc_it (walk_tup (xs := xs)) (fun i H' => Same H H' ∧ H' D = some (.lst (((ss.map fun s => (st1 s).isSome).take i).map V.bl))) ⟨same_new hD, upd_same⟩ (fun i H' _ z => sqT_same z.1 ha) ?_ ?_
        · rintro i x H3 H4 hi ⟨s3, hD3⟩ ⟨rfl, hx⟩
          obtain ⟨s, hs, hxs⟩ := pget1 hp hx
          refine ⟨rfl, ?_⟩
          dsimp only [tYes]
          rw [if_pos rfl]
          refine ⟨_, rfl, p, x, s, rfl, (stbS stb0).same s3 hxs, _, hD3, ?_, same_upd s3 hD, ?_⟩
          · rw [List.length_map, List.length_take]
            exact Nat.lt_of_le_of_lt (by omega : _ ≤ 1000) (by decide)
          · rw [upd_same]
            rw [take_more (by rw [List.getElem?_map, hs]; rfl), List.map_append]
            rfl
        · rintro H5 ⟨s5, hD5⟩
          rw [List.take_of_length_le (by rw [List.length_map]; omega)] at hD5
          refine ⟨D, _, rfl, SqL.of hD5, ?_⟩
          have eall : (ss.map fun s => (st1 s).isSome).all id = ss.all fun s => (st1 s).isSome := by
            rw [List.all_map]
            rfl
          rw [eall]
          have kp : ∀ H', Same H5 H' → Q (.bl ((ss.all fun s => (st1 s).isSome) && runP [] (ss.filterMap st1))) H' := fun H' k => by
            have z := kq H' (s5.trans k)
            unfold planX at z
            rw [decide_eq_true (by omega : ss.length ≤ 16), Bool.true_and] at z
            exact z
          cases call : ss.all fun s => (st1 s).isSome with
          | false =>
            rw [call] at kp
            exact ⟨_, rfl, iteT (kp H5 (Same.refl H5))⟩
          | true =>
            rw [call] at kp
            obtain ⟨m, em, efm⟩ := fm_all (f := st1) call
            rw [efm] at kp
            refine ⟨_, rfl, iteF fun d hd => ?_⟩
            have hd6 : upd H5 d (.dK []) d = some (.dK []) := upd_same
            have s6 : Same H5 (upd H5 d (.dK [])) := same_new hd
            generalize upd H5 d (.dK []) = H6 at hd6 s6
            have ha6 := sqT_same (s5.trans s6) ha
            refine ⟨_, rfl, a, rfl, ⟨_, ha6⟩, ?_⟩
            refine for_tup (xs := xs) (fun i σ H' => ∃ v1 held, σ = [some (.ref a), v1, some (.ref d)] ∧ Same H5 H' ∧ H' d = some (.dK (held.map fun k => ((Sum.inl k : Key), V.bl true))) ∧ held.length ≤ i ∧ runP [] m = runP held (m.drop i)) ⟨_, [], rfl, s6, hd6, Nat.le_refl 0, rfl⟩ (fun i σ H' _ z => by obtain ⟨_, _, _, s, _⟩ := z; exact sqT_same (s5.trans s) ha) ?_ ?_
            · rintro i x σ H7 hxi ⟨v1, held, rfl, s7, hd7, hhl, er⟩
              obtain ⟨s, hs, hxs⟩ := pget1 hp hxi
              obtain ⟨tn, htn⟩ : ∃ tn, m[i]? = some tn := by
                have l1 : m.length = ss.length := by
                  have z := congrArg List.length em
                  rw [List.length_map, List.length_map] at z
                  exact z.symm
                exact ⟨m[i]'(by rw [l1]; exact (List.getElem?_eq_some_iff.mp hs).1), List.getElem?_eq_getElem _⟩
              obtain ⟨t, n⟩ := tn
              have est : st1 s = some (t, n) := by
                have z := congrArg (fun l => l[i]?) em
                simp only [List.getElem?_map, hs, htn, Option.map_some] at z
                exact Option.some.inj z
              have edr : m.drop i = (t, n) :: m.drop (i + 1) := by
                obtain ⟨z1, z2⟩ := List.getElem?_eq_some_iff.mp htn
                rw [List.drop_eq_getElem_cons z1, z2]
              rw [edr] at er
              obtain ⟨b, ys, rfl, hb, ⟨n0, n6⟩, hys⟩ := stp_x ((stbS stb0).same (s5.trans s7) hxs) est
              have e0 : ∃ z : Str, ys[0]? = some (.str z) ∧ decide (V.str z = V.str "take") = t := by
                rcases hys with ⟨rfl, rfl⟩ | ⟨rfl, bb, rfl⟩
                · exact ⟨_, rfl, by decide +kernel⟩
                · exact ⟨_, rfl, by decide +kernel⟩
              have e1 : ys[1]? = some (.int n) := by
                rcases hys with ⟨rfl, rfl⟩ | ⟨rfl, bb, rfl⟩ <;> rfl
              obtain ⟨z0, e0, e0t⟩ := e0
              refine ⟨_, rfl, b, ys, 0, _, rfl, rfl, hb, HX.at_of (j := 0) e0 rfl, rfl, ?_⟩
              refine ⟨_, rfl, b, ys, 1, _, rfl, rfl, hb, HX.at_of (j := 1) e1 rfl, _, rfl, d, _, rfl, DGet.k (k := .inl n) hd7, ?_⟩
              rw [valV_unit]
              refine ⟨rfl, ?_⟩
              have kt7 : Q (.bl (runP held ((t, n) :: m.drop (i + 1)))) H7 := by
                have z := kp H7 s7
                rw [Bool.true_and, er] at z
                exact z
              refine ⟨_, rfl, ?_⟩
              rw [e0t]
              have ed : decide (V.bl t = V.bl (decide (n ∈ held))) = decide (t = decide (n ∈ held)) := by
                by_cases c : t = decide (n ∈ held)
                · rw [decide_eq_true c]
                  exact decide_eq_true (congrArg V.bl c)
                · rw [decide_eq_false c]
                  exact decide_eq_false fun z => c (by injection z)
              rw [ed]
              by_cases c : t = decide (n ∈ held)
              · rw [decide_eq_true c]
                rw [runP_cons] at kt7
                rw [if_pos c] at kt7
                exact iteT kt7
              · rw [decide_eq_false c]
                refine iteF ?_
                rw [runP_cons] at er
                rw [if_neg c] at er
                refine ⟨_, rfl, b, ys, 0, _, rfl, rfl, hb, HX.at_of (j := 0) e0 rfl, rfl, _, rfl, ?_⟩
                rw [e0t]
                cases t with
                | true =>
                  have nm : n ∉ held := fun z => c (decide_eq_true z).symm
                  rw [if_pos rfl] at er
                  refine iteT ⟨_, rfl, _, rfl, b, ys, 1, _, rfl, rfl, hb, HX.at_of (j := 1) e1 rfl, d, _, rfl, .inl ⟨_, .inl n, hd7, rfl, ?_, rfl⟩, ?_⟩
                  · rw [List.length_map]
                    exact Nat.lt_of_le_of_lt (by have := (List.getElem?_eq_some_iff.mp hxi).1; omega : _ ≤ 1000) (by decide)
                  · rw [put_unit nm]
                    refine ⟨_, held ++ [n], rfl, same_upd s7 hd, upd_same, ?_, er⟩
                    rw [List.length_append, List.length_singleton]
                    omega
                | false =>
                  have nm : n ∈ held := by
                    rcases Decidable.em (n ∈ held) with z | z
                    · exact z
                    · exact (c (decide_eq_false z).symm).elim
                  rw [if_neg nofun] at er
                  refine iteF ⟨_, rfl, _, rfl, b, ys, 1, _, rfl, rfl, hb, HX.at_of (j := 1) e1 rfl, d, _, .inl n, rfl, hd7, rfl, ?_, ?_⟩
                  · rw [valV_unit]
                    exact decide_eq_true nm
                  · rw [drop_unit]
                    exact ⟨_, _, rfl, same_upd s7 hd, upd_same, Nat.le_trans (List.length_filter_le _ _) (by omega), er⟩
            · rintro σ H7 ⟨v1, held, rfl, s7, hd7, hhl, er⟩
              refine ⟨_, rfl, _, .inr (.inr ⟨_, hd7, rfl⟩), ?_⟩
              have z := kp H7 s7
              rw [Bool.true_and, er, List.drop_of_length_le] at z
              · have e : (!(!(held.map fun k => ((Sum.inl k : Key), V.bl true)).isEmpty)) = runP held [] := by
                  rw [Bool.not_not]
                  cases held <;> rfl
                rw [e]
                exact z
              · have l1 := congrArg List.length em
                rw [List.length_map, List.length_map] at l1
                omega
    · obtain ⟨t, h1, h2⟩ := ntup_ty hx
      exact ⟨_, rfl, _, _, t, .type "tuple", false, rfl, .ty "tuple", h1, h2, false, rfl, iteT (iteT (kq H (Same.refl H)))⟩
/-! plans -/
def sp_are_plans (K : PySem.W.Frag) : Sp := fun vs H Q _ => ∃ (p : Addr) (x : V) (r : Option (List (Option (List (Option (List V)))))), vs = [x] ∧ Pls K p H x r ∧ (∀ ps, r = some ps → ∀ o ∈ ps, ∀ ss, o = some ss → ss.length ≤ 1000) ∧ ∀ H', Same H H' → Q (.bl (pp1 r)) H'
theorem ok_are_plans (T : TX K mg) : FnOk P w K mg base CX0 5 (He.ga K "are_plans") T.fd_are_plans ["thing"] (sp_are_plans K) := by
  have G_is_plan : FnOk P w K mg base CX0 4 (He.ga K "is_plan") T.fd_is_plan ["thing"] (sp_is_plan K) := ok_is_plan T
  have b_is_plan := b_is_plan T
  refine T.F_are_plans.ok sc_are_plans (fun vs H Q E h => ?_) (fun cdv A outer st H vs Q E hr h => ?_)
  · obtain ⟨p, x, r, rfl, _⟩ := h
    rfl
  · obtain ⟨p, x, r, rfl, ⟨_, hx⟩, hl, kq⟩ := h
    refine ⟨_, PSs.nox (pss_cons (ps_if (PW.pt (pw_or (pt_not (pt_val (pe_callB call_isi rfl T.n_isinstance (by decide +kernel) (pa_cons (pv 0) (pa_cons (pe_ty "tuple" T.n_tuple (by decide +kernel)) pa_nil))))) (pw_or1 (pt_not (pt_chain op_le op_le pe_int (pe_callB call_len_seq rfl T.n_len PySem.boot_len (pa_cons (pv 0) pa_nil)) (pe_gint T.g_MOST_HANDS))))))
 (pss_one (ps_ret pe_bl))
 pss_nil)
 (pss_one (ps_ret (pe_callB (cr_all rfl) rfl T.n_all (by decide +kernel) (pa_cons (pe_lc (own := [("plan", 1)]) (g := gName 1) (tt := tYes) rfl sc_are_plans.nd (pi_tup (pv 0)) (blkOk_by (own := [("plan", 1)]) (N := ["thing", "plan"]) (sc := defScope s_are_plans) (by decide +kernel)) (fun _ _ _ _ _ => (pg_name (i := 1) sc_are_plans.nd rfl (Or.inl rfl))) (fun _ _ _ _ _ => pts_nil) (fun _ _ _ _ _ => (pe_call G_is_plan (hr.mono (by first | decide | omega)) rfl T.g_is_plan T.F_is_plan.kp b_is_plan .nil pass0 (pa_cons (pv 1) pa_nil)))) pa_nil))))), ?_⟩
    rcases hx with ⟨a, xs, ps, rfl, ha, hp, rfl⟩ | ⟨hx, rfl⟩
    · refine ⟨_, rfl, _, _, .type "tuple", .type "tuple", true, rfl, .ty "tuple", tyTp ha, kt "tuple" "tuple" true (by decide +kernel), true, rfl, iteF ?_⟩
      have hlen := hp.length
      have l9 := hl ps rfl
      replace kq : ∀ H', Same H H' → Q (.bl (plansX ps)) H' := kq
      have bad : ¬ (1 ≤ ps.length ∧ ps.length ≤ 4) → Q (.bl false) H := fun c => by
        have z := kq H (Same.refl H)
        unfold plansX at z
        rw [show (decide (1 ≤ ps.length) && decide (ps.length ≤ 4)) = false by
          by_cases c1 : 1 ≤ ps.length
          · rw [decide_eq_false (fun z => c ⟨c1, z⟩), Bool.and_false]
          · rw [decide_eq_false c1, Bool.false_and], Bool.false_and] at z
        exact z
      refine ⟨_, rfl, a, _, rfl, .inr ha, _, _, rfl, rfl, _, rfl, ?_⟩
      by_cases c1 : (1 : Int) ≤ (xs.length : Int)
      case neg =>
        rw [decide_eq_false c1]
        exact iteF ⟨_, rfl, iteT (bad (by omega))⟩
      rw [decide_eq_true c1]
      refine iteT ⟨_, _, rfl, rfl, _, rfl, ?_⟩
      by_cases c4 : (xs.length : Int) ≤ 4
      case neg =>
        rw [decide_eq_false c4]
        exact iteT (bad (by omega))
      rw [decide_eq_true c4]
      refine iteF ?_
      refine ⟨_, rfl, a, rfl, ⟨_, ha⟩, fun D hD => ?_⟩
      refine lc_it (walk_tup (xs := xs)) (fun i H' => Same H H' ∧ H' D = some (.lst (((ps.map pl1).take i).map V.bl))) ⟨same_new hD, upd_same⟩ (fun i H' _ z => sqT_same z.1 ha) ?_ ?_
      · rintro i x H3 H4 hi ⟨s3, hD3⟩ ⟨rfl, hx⟩
        obtain ⟨s, hs, hxs⟩ := pget1 hp hx
        refine ⟨rfl, ?_⟩
        dsimp only [tYes]
        rw [if_pos rfl]
        refine ⟨_, rfl, p, x, s, rfl, (stbS (stbS stb0)).same s3 hxs, l9 s (List.mem_of_getElem? hs), fun H5 s5 => ⟨_, s5 _ _ hD3, ?_, same_upd (s3.trans s5) hD, ?_⟩⟩
        · rw [List.length_map, List.length_take]
          exact Nat.lt_of_le_of_lt (by omega : _ ≤ 1000) (by decide)
        · rw [upd_same]
          rw [take_more (by rw [List.getElem?_map, hs]; rfl), List.map_append]
          rfl
      · rintro H5 ⟨s5, hD5⟩
        rw [List.take_of_length_le (by rw [List.length_map]; omega)] at hD5
        refine ⟨D, _, rfl, SqL.of hD5, ?_⟩
        have z := kq H5 s5
        unfold plansX at z
        rw [decide_eq_true (by omega : 1 ≤ ps.length), decide_eq_true (by omega : ps.length ≤ 4)] at z
        rw [List.all_map]
        exact z
    · obtain ⟨t, h1, h2⟩ := ntup_ty hx
      exact ⟨_, rfl, _, _, t, .type "tuple", false, rfl, .ty "tuple", h1, h2, false, rfl, iteT (iteT (kq H (Same.refl H)))⟩
end
end K40

namespace K40
open PySem PySem.Spec PyProof.Rows L2 RZ HX TR RP EQT
theorem isTxt_no {x0 : V} (h : isTxt x0 = false) (z : Str) : isStr x0 z = false := by
  cases x0 with
  | str t => cases h
  | _ => rfl
theorem step_txt {x0 : V} {ys : List V} (h : isTxt x0 = false) : stepX (x0 :: ys) = none := by
  rw [← Option.isNone_iff_eq_none, ← Option.not_isSome, Bool.not_eq_true']
  by_cases c2 : (x0 :: ys).length = 2
  · obtain ⟨k, rfl⟩ : ∃ k, ys = [k] := by
      match ys, c2 with
      | [k], _ => exact ⟨k, rfl⟩
    rw [step2, isTxt_no h]
    rfl
  · by_cases c3 : (x0 :: ys).length = 3
    · obtain ⟨k, b, rfl⟩ : ∃ k b, ys = [k, b] := by
        match ys, c3 with
        | [k, b], _ => exact ⟨k, b, rfl⟩
      rw [step3, isTxt_no h]
      rfl
    · rw [step_none c2 c3]
      rfl
theorem step_bad {x0 k : V} {ys : List V} (h : isI k 0 60 = false) : stepX (x0 :: k :: ys) = none := by
  rw [← Option.isNone_iff_eq_none, ← Option.not_isSome, Bool.not_eq_true']
  by_cases c2 : (x0 :: k :: ys).length = 2
  · obtain rfl : ys = [] := by
      match ys, c2 with
      | [], _ => rfl
    rw [step2, h, Bool.and_false]
  · by_cases c3 : (x0 :: k :: ys).length = 3
    · obtain ⟨b, rfl⟩ : ∃ b, ys = [b] := by
        match ys, c3 with
        | [b], _ => exact ⟨b, rfl⟩
      rw [step3, h, Bool.false_and, Bool.and_false]
    · rw [step_none c2 c3]
      rfl
theorem isStr_eq {x : V} {z : Str} (h : isStr x z = true) : x = .str z := by
  cases x with
  | str t => rw [of_decide_eq_true h]
  | _ => cases h
theorem w_lt : isStr (.str "let") "take" = false := by decide +kernel
theorem w_tl : isStr (.str "take") "let" = false := by decide +kernel
theorem step_let {x0 k : V} {ys : List V} (h : isStr x0 "let" = true) (hk : isI k 0 60 = true) : (stepX (x0 :: k :: ys)).isSome = decide (ys.length + 2 = 2) := by
  by_cases c2 : ys.length + 2 = 2
  · obtain rfl : ys = [] := List.eq_nil_of_length_eq_zero (by omega)
    rw [step2, h, hk]
    rfl
  · rw [decide_eq_false c2]
    by_cases c3 : ys.length + 2 = 3
    · obtain ⟨b, rfl⟩ : ∃ b, ys = [b] := by
        match ys, c3 with
        | [b], _ => exact ⟨b, rfl⟩
      rw [step3, isStr_eq h, w_lt]
      rfl
    · rw [step_none (xs := x0 :: k :: ys) c2 c3]
      rfl
theorem step_take {x0 k : V} {ys : List V} (h : isStr x0 "let" = false) (hk : isI k 0 60 = true) : (stepX (x0 :: k :: ys)).isSome = (isStr x0 "take" && (decide (ys.length + 2 = 3) && match ys with | [b] => isBl b | _ => false)) := by
  by_cases c3 : ys.length + 2 = 3
  · obtain ⟨b, rfl⟩ : ∃ b, ys = [b] := by
      match ys, c3 with
      | [b], _ => exact ⟨b, rfl⟩
    rw [step3, hk]
    rfl
  · rw [decide_eq_false c3, Bool.false_and, Bool.and_false]
    by_cases c2 : ys.length + 2 = 2
    · obtain rfl : ys = [] := List.eq_nil_of_length_eq_zero (by omega)
      rw [step2, h]
      rfl
    · rw [step_none (xs := x0 :: k :: ys) c2 c3]
      rfl
section
variable {P : Program} {w : World} {K : PySem.W.Frag} {mg : Str → Option Value} {base : Heap}
theorem ok_law_whole (T : TX K mg) : FnOk P w K mg base CX0 1 (He.ga K "_law_whole") T.fd_law_whole ["thing"] (sp_is_whole K) := by
  refine T.F_law_whole.ok sc_law_whole (fun vs H Q E h => ?_) (fun cdv A outer st H vs Q E hr h => ?_)
  · obtain ⟨i, rfl, _⟩ := h
    rfl
  · obtain ⟨x, rfl, hx, kq⟩ := h
    refine ⟨_, PSs.nox (pss_one (ps_ret (pe_and (pe_callB call_isi rfl T.n_isinstance (by decide +kernel) (pa_cons (pv 0) (pa_cons (pe_ty "int" T.n_int (by decide +kernel)) pa_nil))) (pe_one (pe_not (pe_callB call_isi rfl T.n_isinstance (by decide +kernel) (pa_cons (pv 0) (pa_cons (pe_ty "bool" T.n_bool (by decide +kernel)) pa_nil)))))))), ?_⟩
    obtain ⟨t, h1, h2, h3, _⟩ := thg_ty hx
    refine ⟨_, rfl, _, _, t, .type "int", _, rfl, .ty "int", h1, h2, _, rfl, ?_⟩
    cases x with
    | int i => exact iteT ⟨_, rfl, _, _, t, .type "bool", _, rfl, .ty "bool", h1, h3, _, rfl, kq⟩
    | bl b => exact iteT ⟨_, rfl, _, _, t, .type "bool", _, rfl, .ty "bool", h1, h3, _, rfl, kq⟩
    | _ => exact iteF kq
theorem ok_law_is_step (T : TX K mg) : FnOk P w K mg base CX0 2 (He.ga K "_law_is_step") T.fd_law_is_step ["thing"] (sp_is_step K) := by
  have G_law_whole : FnOk P w K mg base CX0 1 (He.ga K "_law_whole") T.fd_law_whole ["thing"] (sp_is_whole K) := ok_law_whole T
  have b_law_whole := b_law_whole T
  refine T.F_law_is_step.ok sc_law_is_step (fun vs H Q E h => ?_) (fun cdv A outer st H vs Q E hr h => ?_)
  · obtain ⟨p, x, r, rfl, _⟩ := h
    rfl
  · obtain ⟨p, x, r, rfl, ⟨_, hx⟩, kq⟩ := h
    refine ⟨_, PSs.nox (pss_cons (ps_if (PW.pt (pw_or (pt_not (pt_val (pe_callB call_isi rfl T.n_isinstance (by decide +kernel) (pa_cons (pv 0) (pa_cons (pe_ty "tuple" T.n_tuple (by decide +kernel)) pa_nil))))) (pw_or (pt_cmpR op_lt (pe_callB call_len_seq rfl T.n_len PySem.boot_len (pa_cons (pv 0) pa_nil)) pe_int (nomark _)) (pw_or1 (pt_not (pt_val (pe_callB call_isi rfl T.n_isinstance (by decide +kernel) (pa_cons (pe_ix ix_tup (pv 0) pe_int (fun _ _ => rfl)) (pa_cons (pe_ty "str" T.n_str (by decide +kernel)) pa_nil)))))))))
 (pss_one (ps_ret pe_bl))
 pss_nil)
 (pss_cons (ps_if (PW.pt (pw_or (pt_not (pt_val (pe_call G_law_whole (hr.mono (by first | decide | omega)) rfl T.g_law_whole T.F_law_whole.kp b_law_whole .nil pass0 (pa_cons (pe_ix ix_tup (pv 0) pe_int (fun _ _ => rfl)) pa_nil)))) (pw_or1 (pt_not (pt_chain op_le op_le pe_int (pe_ix ix_tup (pv 0) pe_int (fun _ _ => rfl)) pe_int)))))
 (pss_one (ps_ret pe_bl))
 pss_nil)
 (pss_cons (ps_if (pt_cmpR (EQT.op_eqS hr.units0) (pe_ix ix_tup (pv 0) pe_int (fun _ _ => rfl)) pe_str (nomark _))
 (pss_one (ps_ret (pe_cmpR op_eq (pe_callB call_len_seq rfl T.n_len PySem.boot_len (pa_cons (pv 0) pa_nil)) pe_int (nomark _))))
 pss_nil)
 (pss_one (ps_ret (pe_and (pe_cmpR (EQT.op_eqS hr.units0) (pe_ix ix_tup (pv 0) pe_int (fun _ _ => rfl)) pe_str (nomark _)) (pe_and (pe_cmpR op_eq (pe_callB call_len_seq rfl T.n_len PySem.boot_len (pa_cons (pv 0) pa_nil)) pe_int (nomark _)) (pe_one (pe_callB call_isi rfl T.n_isinstance (by decide +kernel) (pa_cons (pe_ix ix_tup (pv 0) pe_int (fun _ _ => rfl)) (pa_cons (pe_ty "bool" T.n_bool (by decide +kernel)) pa_nil))))))))))), ?_⟩
    rcases hx with ⟨a, xs, rs, rfl, ha, hp, rfl⟩ | ⟨hx, rfl⟩
    · obtain ⟨rfl, hy⟩ := l0_list hp
      replace kq : Q (.bl (stepX rs).isSome) H := kq
      refine ⟨_, rfl, _, _, .type "tuple", .type "tuple", true, rfl, .ty "tuple", tyTp ha, kt "tuple" "tuple" true (by decide +kernel), true, rfl, iteF ?_⟩
      refine ⟨_, rfl, a, _, rfl, .inr ha, _, _, rfl, rfl, _, rfl, ?_⟩
      by_cases c2 : (rs.length : Int) < 2
      · rw [decide_eq_true c2]
        rw [step_none (by omega) (by omega)] at kq
        exact iteT (iteT kq)
      · rw [decide_eq_false c2]
        refine iteF ?_
        obtain ⟨x0, k, ys, rfl⟩ : ∃ x0 k ys, rs = x0 :: k :: ys := by
          match rs, c2 with
          | x0 :: k :: ys, _ => exact ⟨x0, k, ys, rfl⟩
          | [_], c => exact (c (by show (1 : Int) < 2; decide)).elim
          | [], c => exact (c (by show (0 : Int) < 2; decide)).elim
        have h0 := hy x0 (List.mem_cons_self ..)
        have h1 := hy k (List.mem_cons_of_mem _ (List.mem_cons_self ..))
        obtain ⟨t0, q1, q2, q3, q4⟩ := thg_ty h0
        refine ⟨_, rfl, a, _, 0, x0, rfl, rfl, ha, HX.at_of (j := 0) rfl rfl, _, _, t0, .type "str", _, rfl, .ty "str", q1, q4, _, rfl, ?_⟩
        cases ct : isTxt x0 with
        | false =>
          rw [step_txt ct] at kq
          exact iteT kq
        | true =>
        refine iteF ?_
        refine ⟨_, rfl, a, _, 1, k, rfl, rfl, ha, HX.at_of (j := 1) rfl rfl, k, rfl, h1, _, rfl, ?_⟩
        have bad : isI k 0 60 = false → Q (.bl false) H := fun b => by
          rw [step_bad b] at kq
          exact kq
        cases k with
        | int i =>
          refine iteF ?_
          refine ⟨_, rfl, a, _, 1, _, rfl, rfl, ha, HX.at_of (j := 1) rfl rfl, _, _, rfl, rfl, _, rfl, ?_⟩
          by_cases i0 : (0 : Int) ≤ i
          case neg =>
            rw [decide_eq_false i0]
            refine iteF ⟨_, rfl, iteT (bad ?_)⟩
            show (decide (0 ≤ i) && decide (i ≤ 60)) = false
            rw [decide_eq_false i0]
            rfl
          rw [decide_eq_true i0]
          refine iteT ⟨_, _, rfl, rfl, _, rfl, ?_⟩
          by_cases i6 : i ≤ 60
          case neg =>
            rw [decide_eq_false i6]
            refine iteT (bad ?_)
            show (decide (0 ≤ i) && decide (i ≤ 60)) = false
            rw [decide_eq_false i6, Bool.and_false]
          rw [decide_eq_true i6]
          have hk : isI (.int i) 0 60 = true := by
            show (decide (0 ≤ i) && decide (i ≤ 60)) = true
            rw [decide_eq_true i0, decide_eq_true i6]
            rfl
          refine iteF ?_
          have el : ∀ n : Nat, decide (V.int (((x0 :: .int i :: ys : List V).length : Nat) : Int) = V.int (n : Int)) = decide (ys.length + 2 = n) := fun n => by
            rw [List.length_cons, List.length_cons]
            by_cases c : ys.length + 2 = n
            · rw [decide_eq_true c, ← c]
              exact decide_eq_true rfl
            · rw [decide_eq_false c]
              exact decide_eq_false fun z => c (by injection z with z; omega)
          refine ⟨_, rfl, a, _, 0, x0, rfl, rfl, ha, HX.at_of (j := 0) rfl rfl, "let", rfl, h0, _, rfl, ?_⟩
          cases c : isStr x0 "let" with
          | true =>
            rw [step_let c hk] at kq
            refine iteT ⟨_, rfl, a, _, rfl, .inr ha, rfl, ?_⟩
            exact (el 2).symm ▸ kq
          | false =>
            rw [step_take c hk] at kq
            refine iteF ⟨_, rfl, a, _, 0, x0, rfl, rfl, ha, HX.at_of (j := 0) rfl rfl, "take", rfl, h0, _, rfl, ?_⟩
            cases c2 : isStr x0 "take" with
            | false =>
              rw [c2] at kq
              exact iteF kq
            | true =>
              rw [c2, Bool.true_and] at kq
              refine iteT ⟨_, rfl, a, _, rfl, .inr ha, rfl, _, rfl, ?_⟩
              have e3 := el 3
              rw [show V.int 3 = V.int ((3 : Nat) : Int) from rfl, e3]
              by_cases c3 : ys.length + 2 = 3
              · rw [decide_eq_true c3] at kq ⊢
                obtain ⟨b, rfl⟩ : ∃ b, ys = [b] := by
                  match ys, c3 with
                  | [b], _ => exact ⟨b, rfl⟩
                have h2 := hy b (List.mem_cons_of_mem _ (List.mem_cons_of_mem _ (List.mem_cons_self ..)))
                obtain ⟨t, r1, r2, r3, r4⟩ := thg_ty h2
                exact iteT ⟨_, rfl, a, _, 2, b, rfl, rfl, ha, HX.at_of (j := 2) rfl rfl, _, _, t, .type "bool", _, rfl, .ty "bool", r1, r3, kq⟩
              · rw [decide_eq_false c3] at kq ⊢
                exact iteF kq
        | _ => exact iteT (iteT (bad rfl))
    · obtain ⟨t, h1, h2⟩ := ntup_ty hx
      exact ⟨_, rfl, _, _, t, .type "tuple", false, rfl, .ty "tuple", h1, h2, false, rfl, iteT (iteT kq)⟩
theorem inV_int' {i : Int} {ks : List Int} : inV (.int i) (ks.map V.int) = decide (i ∈ ks) := by
  unfold inV
  rw [List.any_map, Bool.eq_iff_iff, List.any_eq_true, decide_eq_true_eq]
  constructor
  · rintro ⟨k, hk, e⟩
    have e' : k = i := by
      have z : eqV (.int k) (.int i) = true := e
      simpa [eqV] using z
    exact e' ▸ hk
  · intro h
    exact ⟨i, h, by show eqV (.int i) (.int i) = true; simp [eqV]⟩
theorem flat_ints' {ks : List Int} : (ks.map V.int).all flatV = true := List.all_eq_true.mpr fun x hx => by
  obtain ⟨n, _, rfl⟩ := List.mem_map.mp hx
  rfl
theorem ok_law_is_plan (T : TX K mg) : FnOk P w K mg base CX0 3 (He.ga K "_law_is_plan") T.fd_law_is_plan ["thing"] (sp_is_plan K) := by
  have G_law_is_step : FnOk P w K mg base CX0 2 (He.ga K "_law_is_step") T.fd_law_is_step ["thing"] (sp_is_step K) := ok_law_is_step T
  have b_law_is_step := b_law_is_step T
  refine T.F_law_is_plan.ok sc_law_is_plan (fun vs H Q E h => ?_) (fun cdv A outer st H vs Q E hr h => ?_)
  · obtain ⟨p, x, r, rfl, _⟩ := h
    rfl
  · obtain ⟨p, x, r, rfl, ⟨_, hx⟩, hl, kq⟩ := h
    refine ⟨_, PSs.nox (pss_cons (ps_if (PW.pt (pw_or (pt_not (pt_val (pe_callB call_isi rfl T.n_isinstance (by decide +kernel) (pa_cons (pv 0) (pa_cons (pe_ty "tuple" T.n_tuple (by decide +kernel)) pa_nil))))) (pw_or1 (pt_cmpR op_gt (pe_callB call_len_seq rfl T.n_len PySem.boot_len (pa_cons (pv 0) pa_nil)) pe_int (nomark _)))))
 (pss_one (ps_ret pe_bl))
 pss_nil)
 (pss_cons (ps_set (i := 1) sc_law_is_plan.nd rfl (Or.inl rfl) (pe_lst pa_nil))
 (pss_cons (ps_for PassesOwn.never rfl (pi_tup (pv 0)) (pg_name (i := 2) sc_law_is_plan.nd rfl (Or.inr rfl))
 (pss_cons (ps_if (PW.pt (pw_or (pt_not (pt_val (pe_call G_law_is_step (hr.mono (by first | decide | omega)) rfl T.g_law_is_step T.F_law_is_step.kp b_law_is_step .nil pass0 (pa_cons (pv 2) pa_nil)))) (pw_or1 (pt_cmpR op_eq (pe_cmpR op_eq (pe_ix ix_tup (pv 2) pe_int (fun _ _ => rfl)) pe_str (nomark _)) (pe_cmpR op_in_seq (pe_ix ix_tup (pv 2) pe_int (fun _ _ => rfl)) (pv 1) rfl) (nomark _)))))
 (pss_one (ps_ret pe_bl))
 pss_nil)
 (pss_one (ps_if (pt_cmpR op_eq (pe_ix ix_tup (pv 2) pe_int (fun _ _ => rfl)) pe_str (nomark _))
 (pss_one (ps_set (i := 1) sc_law_is_plan.nd rfl (Or.inl rfl) (pe_op op_cat (pv 1) (pe_lst (pa_cons (pe_ix ix_tup (pv 2) pe_int (fun _ _ => rfl)) pa_nil)))))
 (pss_one (ps_setLc (i := 1) (own := [("page", 3)]) (g := gName 3) (tt := _) rfl sc_law_is_plan.nd rfl rfl (sw_true rfl rfl rfl (by decide +kernel)) (pi_list (pv 1)) (blkOk_by (own := [("page", 3)]) (N := ["thing", "held", "step", "page"]) (sc := defScope s_law_is_plan) (by decide +kernel)) (fun _ _ _ _ _ => (pg_name (i := 3) sc_law_is_plan.nd rfl (Or.inl rfl))) (fun _ _ _ _ _ => pts_one (pt_cmpR op_ne (pv 3) (pe_ix (ixt K) (pv 2) pe_int (fun _ _ => rfl)) (nomark _))) (fun _ _ _ _ _ => (pv 3))))))))
 (pss_one (ps_ret (pe_cmpR (op_eqD hr.units) (pv 1) (pe_lst pa_nil) (nomark _))))))), ?_⟩
    rcases hx with ⟨a, xs, ss, rfl, ha, hp, rfl⟩ | ⟨hx, rfl⟩
    · refine ⟨_, rfl, _, _, .type "tuple", .type "tuple", true, rfl, .ty "tuple", tyTp ha, kt "tuple" "tuple" true (by decide +kernel), true, rfl, iteF ?_⟩
      have hlen := hp.length
      have l9 := hl ss rfl
      replace kq : ∀ H', Same H H' → Q (.bl (planX ss)) H' := kq
      refine ⟨_, rfl, a, _, rfl, .inr ha, _, _, rfl, rfl, _, rfl, ?_⟩
      by_cases c16 : (xs.length : Int) > 16
      · rw [decide_eq_true c16]
        have z := kq H (Same.refl H)
        unfold planX at z
        rw [decide_eq_false (by omega : ¬ ss.length ≤ 16)] at z
        exact iteT z
      · rw [decide_eq_false c16]
        refine iteF ?_
        have kp : ∀ H', Same H H' → Q (.bl ((ss.all fun s => (st1 s).isSome) && runP [] (ss.filterMap st1))) H' := fun H' k => by
          have z := kq H' k
          unfold planX at z
          rw [decide_eq_true (by omega : ss.length ≤ 16), Bool.true_and] at z
          exact z
        refine ⟨Nat.zero_le _, fun d hd => ?_⟩
        have sd : Same H (upd H d (.lst [])) := same_new hd
        have hd1 : upd H d (.lst []) d = some (.lst (([] : List Int).map V.int)) := upd_same
        refine ⟨_, rfl, a, rfl, ⟨_, sqT_same sd ha⟩, ?_⟩
        generalize upd H d (.lst []) = H1 at sd hd1
        refine for_tup (xs := xs) (fun i σ H' => ∃ L v2 v3 held, σ = [some (.ref a), some (.ref L), v2, v3] ∧ Same H H' ∧ H L = none ∧ H' L = some (.lst (held.map V.int)) ∧ held.length ≤ i ∧ ((ss.all fun s => (st1 s).isSome) && runP [] (ss.filterMap st1)) = (((ss.drop i).all fun s => (st1 s).isSome) && runP held ((ss.drop i).filterMap st1))) ⟨d, _, _, [], rfl, sd, hd, hd1, Nat.le_refl 0, rfl⟩ (fun i σ H' _ z => by obtain ⟨_, _, _, _, _, s, _⟩ := z; exact sqT_same s ha) ?_ ?_
        · rintro i x σ H7 hxi ⟨L, v2, v3, held, rfl, s7, nL, hL, hhl, er⟩
          obtain ⟨s, hs, hxs⟩ := pget1 hp hxi
          have hil : i < ss.length := (List.getElem?_eq_some_iff.mp hs).1
          have edr : ss.drop i = s :: ss.drop (i + 1) := by
            obtain ⟨z1, z2⟩ := List.getElem?_eq_some_iff.mp hs
            rw [List.drop_eq_getElem_cons z1, z2]
          rw [edr, List.all_cons, List.filterMap_cons] at er
          have hxs7 := (stbS stb0).same s7 hxs
          refine ⟨_, rfl, p, x, s, rfl, hxs7, _, rfl, ?_⟩
          cases est : st1 s with
          | none =>
            rw [est] at er
            have z := kp H7 s7
            rw [er] at z
            exact iteT (iteT z)
          | some tn =>
          obtain ⟨t, n⟩ := tn
          rw [est] at er
          replace er : ((ss.all fun s => (st1 s).isSome) && runP [] (ss.filterMap st1)) = (((ss.drop (i + 1)).all fun s => (st1 s).isSome) && runP held ((t, n) :: (ss.drop (i + 1)).filterMap st1)) := er
          rw [runP_cons] at er
          refine iteF ?_
          obtain ⟨b, ys, rfl, hb, ⟨n0, n6⟩, hys⟩ := stp_x hxs7 est
          have e0 : ∃ z : Str, ys[0]? = some (.str z) ∧ decide (V.str z = V.str "take") = t := by
            rcases hys with ⟨rfl, rfl⟩ | ⟨rfl, bb, rfl⟩
            · exact ⟨_, rfl, by decide +kernel⟩
            · exact ⟨_, rfl, by decide +kernel⟩
          have e1 : ys[1]? = some (.int n) := by
            rcases hys with ⟨rfl, rfl⟩ | ⟨rfl, bb, rfl⟩ <;> rfl
          obtain ⟨z0, e0, e0t⟩ := e0
          refine ⟨_, rfl, b, ys, 0, _, rfl, rfl, hb, HX.at_of (j := 0) e0 rfl, rfl, _, rfl, b, ys, 1, _, rfl, rfl, hb, HX.at_of (j := 1) e1 rfl, _, rfl, L, held.map V.int, rfl, .inl (SqL.of hL), rfl, flat_ints', rfl, _, rfl, ?_⟩
          rw [if_neg nofun, inV_int', e0t]
          have ed : decide (V.bl t = V.bl (decide (n ∈ held))) = decide (t = decide (n ∈ held)) := by
            by_cases c : t = decide (n ∈ held)
            · rw [decide_eq_true c]
              exact decide_eq_true (congrArg V.bl c)
            · rw [decide_eq_false c]
              exact decide_eq_false fun z => c (by injection z)
          rw [ed]
          by_cases c : t = decide (n ∈ held)
          · rw [decide_eq_true c]
            rw [if_pos c, Bool.and_false] at er
            have z := kp H7 s7
            rw [er] at z
            exact iteT z
          · rw [decide_eq_false c]
            refine iteF ?_
            rw [if_neg c] at er
            refine ⟨_, rfl, b, ys, 0, _, rfl, rfl, hb, HX.at_of (j := 0) e0 rfl, rfl, _, rfl, ?_⟩
            rw [e0t]
            cases t with
            | true =>
              rw [if_pos rfl] at er
              refine iteT ⟨_, rfl, _, rfl, b, ys, 1, _, rfl, rfl, hb, HX.at_of (j := 1) e1 rfl, by show 1 ≤ sizeLine; decide, fun q hq => ?_⟩
              have sq : Same H7 (upd H7 q (.lst [.int n])) := same_new hq
              have hq1 : upd H7 q (.lst [.int n]) q = some (.lst [.int n]) := upd_same
              generalize upd H7 q (.lst [.int n]) = H8 at sq hq1
              have nm : (held ++ [n]).map V.int = held.map V.int ++ [.int n] := by rw [List.map_append]; rfl
              refine ⟨L, q, _, _, rfl, rfl, sq _ _ hL, hq1, ?_, fun q2 hq2 => ?_⟩
              · rw [List.length_map]
                exact Nat.le_trans (by show held.length + 1 ≤ 2000; omega) (by decide)
              · rw [← nm]
                have s89 : Same H (upd H8 q2 (.lst ((held ++ [n]).map V.int))) := (s7.trans sq).trans (same_new hq2)
                refine ⟨q2, _, _, held ++ [n], rfl, s89, ?_, upd_same, ?_, er⟩
                · cases e : H q2 with
                  | none => rfl
                  | some o => exact ((Option.some_ne_none _ ((s7.trans sq _ _ e).symm.trans hq2))).elim
                · rw [List.length_append, List.length_singleton]
                  omega
            | false =>
              rw [if_neg nofun] at er
              refine iteF ?_
              refine ⟨_, rfl, L, rfl, ⟨_, SqL.of hL⟩, fun D hD => ?_⟩
              refine lc_it walk_list (fun j H' => Same H7 H' ∧ H' D = some (.lst (((held.take j).filter fun m => !decide (m = n)).map V.int))) ⟨same_new hD, upd_same⟩ (fun j H' _ z => SqL.of (z.1 _ _ hL)) ?_ ?_
              · rintro j x H8 H9 hj ⟨s8, hD8⟩ ⟨rfl, hx⟩
                obtain ⟨m, hm, rfl⟩ : ∃ m, held[j]? = some m ∧ x = .int m := by
                  rw [List.getElem?_map] at hx
                  cases e : held[j]? with
                  | none => rw [e] at hx; cases hx
                  | some m => rw [e] at hx; cases hx; exact ⟨m, rfl, rfl⟩
                refine ⟨rfl, _, rfl, _, rfl, b, ys, 1, _, rfl, rfl, sqT_same s8 hb, HX.at_of (j := 1) e1 rfl, rfl, _, rfl, ?_⟩
                have en : decide (V.int m = V.int n) = decide (m = n) := by
                  by_cases c : m = n
                  · rw [decide_eq_true c, c]
                    exact decide_eq_true rfl
                  · rw [decide_eq_false c]
                    exact decide_eq_false fun z => c (by injection z)
                rw [en, take_more hm, List.filter_append]
                by_cases c : m = n
                · rw [decide_eq_true c]
                  refine iteF ⟨s8, ?_⟩
                  rw [hD8, List.filter_cons, decide_eq_true c]
                  show _ = some (HO.lst ((_ ++ []).map V.int))
                  rw [List.append_nil]
                · rw [decide_eq_false c]
                  refine iteT ⟨_, rfl, _, hD8, ?_, same_upd s8 hD, ?_⟩
                  · rw [List.length_map]
                    exact Nat.lt_of_le_of_lt (Nat.le_trans (List.length_filter_le _ _) (by rw [List.length_take]; omega) : _ ≤ 2000) (by decide)
                  · rw [upd_same, List.filter_cons, decide_eq_false c, List.map_append]
                    rfl
              · rintro H9 ⟨s9, hD9⟩
                rw [List.take_of_length_le (by rw [List.length_map]; exact Nat.le_refl _)] at hD9
                refine ⟨D, _, _, _, rfl, s7.trans s9, ?_, hD9, Nat.le_trans (List.length_filter_le _ _) (by omega), er⟩
                cases e : H D with
                | none => rfl
                | some o => exact ((Option.some_ne_none _ ((s7 _ _ e).symm.trans hD))).elim
        · rintro σ H7 ⟨L, v2, v3, held, rfl, s7, nL, hL, hhl, er⟩
          refine ⟨_, rfl, Nat.zero_le _, fun q hq => ?_⟩
          refine ⟨.list (held.map PyData.int), .list (([] : List Int).map PyData.int), .lst (SqL.of (same_new hq _ _ hL)) (dpa_ints _), .lst (SqL.of upd_same) .nil, shaped_ints _, shaped_ints _, ?_⟩
          rw [eqv_ints]
          have z := kp _ (s7.trans (same_new (o := .lst []) hq))
          rw [er, List.drop_of_length_le (by omega)] at z
          exact z
    · obtain ⟨t, h1, h2⟩ := ntup_ty hx
      exact ⟨_, rfl, _, _, t, .type "tuple", false, rfl, .ty "tuple", h1, h2, false, rfl, iteT (iteT (kq H (Same.refl H)))⟩
theorem ok_law_are_plans (T : TX K mg) : FnOk P w K mg base CX0 4 (He.ga K "_law_are_plans") T.fd_law_are_plans ["thing"] (sp_are_plans K) := by
  have G_law_is_plan : FnOk P w K mg base CX0 3 (He.ga K "_law_is_plan") T.fd_law_is_plan ["thing"] (sp_is_plan K) := ok_law_is_plan T
  have b_law_is_plan := b_law_is_plan T
  refine T.F_law_are_plans.ok sc_law_are_plans (fun vs H Q E h => ?_) (fun cdv A outer st H vs Q E hr h => ?_)
  · obtain ⟨p, x, r, rfl, _⟩ := h
    rfl
  · obtain ⟨p, x, r, rfl, ⟨_, hx⟩, hl, kq⟩ := h
    refine ⟨_, PSs.nox (pss_cons (ps_if (PW.pt (pw_or (pt_not (pt_val (pe_callB call_isi rfl T.n_isinstance (by decide +kernel) (pa_cons (pv 0) (pa_cons (pe_ty "tuple" T.n_tuple (by decide +kernel)) pa_nil))))) (pw_or1 (pt_not (pt_chain op_le op_le pe_int (pe_callB call_len_seq rfl T.n_len PySem.boot_len (pa_cons (pv 0) pa_nil)) pe_int)))))
 (pss_one (ps_ret pe_bl))
 pss_nil)
 (pss_one (ps_ret (pe_callB (cr_all rfl) rfl T.n_all (by decide +kernel) (pa_cons (pe_lc (own := [("plan", 1)]) (g := gName 1) (tt := tYes) rfl sc_law_are_plans.nd (pi_tup (pv 0)) (blkOk_by (own := [("plan", 1)]) (N := ["thing", "plan"]) (sc := defScope s_law_are_plans) (by decide +kernel)) (fun _ _ _ _ _ => (pg_name (i := 1) sc_law_are_plans.nd rfl (Or.inl rfl))) (fun _ _ _ _ _ => pts_nil) (fun _ _ _ _ _ => (pe_call G_law_is_plan (hr.mono (by first | decide | omega)) rfl T.g_law_is_plan T.F_law_is_plan.kp b_law_is_plan .nil pass0 (pa_cons (pv 1) pa_nil)))) pa_nil))))), ?_⟩
    rcases hx with ⟨a, xs, ps, rfl, ha, hp, rfl⟩ | ⟨hx, rfl⟩
    · refine ⟨_, rfl, _, _, .type "tuple", .type "tuple", true, rfl, .ty "tuple", tyTp ha, kt "tuple" "tuple" true (by decide +kernel), true, rfl, iteF ?_⟩
      have hlen := hp.length
      have l9 := hl ps rfl
      replace kq : ∀ H', Same H H' → Q (.bl (plansX ps)) H' := kq
      have bad : ¬ (1 ≤ ps.length ∧ ps.length ≤ 4) → Q (.bl false) H := fun c => by
        have z := kq H (Same.refl H)
        unfold plansX at z
        rw [show (decide (1 ≤ ps.length) && decide (ps.length ≤ 4)) = false by
          by_cases c1 : 1 ≤ ps.length
          · rw [decide_eq_false (fun z => c ⟨c1, z⟩), Bool.and_false]
          · rw [decide_eq_false c1, Bool.false_and], Bool.false_and] at z
        exact z
      refine ⟨_, rfl, a, _, rfl, .inr ha, _, _, rfl, rfl, _, rfl, ?_⟩
      by_cases c1 : (1 : Int) ≤ (xs.length : Int)
      case neg =>
        rw [decide_eq_false c1]
        exact iteF ⟨_, rfl, iteT (bad (by omega))⟩
      rw [decide_eq_true c1]
      refine iteT ⟨_, _, rfl, rfl, _, rfl, ?_⟩
      by_cases c4 : (xs.length : Int) ≤ 4
      case neg =>
        rw [decide_eq_false c4]
        exact iteT (bad (by omega))
      rw [decide_eq_true c4]
      refine iteF ?_
      refine ⟨_, rfl, a, rfl, ⟨_, ha⟩, fun D hD => ?_⟩
      refine lc_it (walk_tup (xs := xs)) (fun i H' => Same H H' ∧ H' D = some (.lst (((ps.map pl1).take i).map V.bl))) ⟨same_new hD, upd_same⟩ (fun i H' _ z => sqT_same z.1 ha) ?_ ?_
      · rintro i x H3 H4 hi ⟨s3, hD3⟩ ⟨rfl, hx⟩
        obtain ⟨s, hs, hxs⟩ := pget1 hp hx
        refine ⟨rfl, ?_⟩
        dsimp only [tYes]
        rw [if_pos rfl]
        refine ⟨_, rfl, p, x, s, rfl, (stbS (stbS stb0)).same s3 hxs, l9 s (List.mem_of_getElem? hs), fun H5 s5 => ⟨_, s5 _ _ hD3, ?_, same_upd (s3.trans s5) hD, ?_⟩⟩
        · rw [List.length_map, List.length_take]
          exact Nat.lt_of_le_of_lt (by omega : _ ≤ 1000) (by decide)
        · rw [upd_same]
          rw [take_more (by rw [List.getElem?_map, hs]; rfl), List.map_append]
          rfl
      · rintro H5 ⟨s5, hD5⟩
        rw [List.take_of_length_le (by rw [List.length_map]; omega)] at hD5
        refine ⟨D, _, rfl, SqL.of hD5, ?_⟩
        have z := kq H5 s5
        unfold plansX at z
        rw [decide_eq_true (by omega : 1 ≤ ps.length), decide_eq_true (by omega : ps.length ≤ 4)] at z
        rw [List.all_map]
        exact z
    · obtain ⟨t, h1, h2⟩ := ntup_ty hx
      exact ⟨_, rfl, _, _, t, .type "tuple", false, rfl, .ty "tuple", h1, h2, false, rfl, iteT (iteT (kq H (Same.refl H)))⟩
end
end K40

namespace K40
open PySem PySem.Spec PyProof.Rows L2 RZ HX TR RP EQT
/-- a list of pages -/
def Pgs (H : Hp) (a : Addr) (ns : List Int) : Prop := H a = some (.lst (ns.map V.int)) ∧ ∀ n ∈ ns, 0 ≤ n ∧ n ≤ 60
theorem Pgs.but {H H' : Hp} {p a : Addr} {ns : List Int} (b : But p H H') (ne : a ≠ p) (h : Pgs H a ns) : Pgs H' a ns := ⟨b _ _ ne h.1, h.2⟩
theorem rg61 {n : Nat} : rgV 0 n = ((List.range n).map fun i : Nat => ((0 : Int) + (i : Int))).map V.int := by
  unfold rgV
  rw [List.map_map]
  rfl
theorem rg61_mem {n : Nat} {x : Int} (h : x ∈ (List.range n).map fun i : Nat => ((0 : Int) + (i : Int))) : 0 ≤ x ∧ x < n := by
  obtain ⟨i, hi, rfl⟩ := List.mem_map.mp h
  have := List.mem_range.mp hi
  omega
theorem erase_map {α β : Type} (f : α → β) : ∀ (l : List α) (n : Nat), (l.map f).eraseIdx n = (l.eraseIdx n).map f
  | [], _ => rfl
  | _ :: _, 0 => rfl
  | a :: l, n + 1 => by rw [List.map_cons, List.eraseIdx_cons_succ, List.eraseIdx_cons_succ, List.map_cons, erase_map f l n]
theorem none_of {H H' : Hp} {a : Addr} (s : Same H H') (n : H' a = none) : H a = none := by
  cases e : H a with
  | none => rfl
  | some o => exact ((Option.some_ne_none _ ((s _ _ e).symm.trans n))).elim
theorem none_but {H H' : Hp} {p a : Addr} {B : Int} (b : But p H H') (hp : PotOk H' p B) (n : H' a = none) : H a = none := by
  cases e : H a with
  | none => rfl
  | some o => exact ((Option.some_ne_none _ ((b _ _ (fun z => hp.ne n z.symm) e).symm.trans n))).elim
section
variable {P : Program} {w : World} {K : PySem.W.Frag} {mg : Str → Option Value} {base : Heap}
def sp_law_pool : Sp := fun vs H Q _ => ∃ (p : Addr) (B : Int), vs = [.ref p] ∧ PotOk H p B ∧ B < 2 ^ 37 ∧
  ∀ (H' : Hp) (a : Addr) (ns : List Int), But p H H' → PotOk H' p (B + 30) → H a = none → p ≠ a → Pgs H' a ns → 2 ≤ ns.length → ns.length ≤ 9 → Q (.ref a) H'
theorem ok_law_pool (T : TX K mg) : FnOk P w K mg base CX0 2 (He.ga K "_law_pool") T.fd_law_pool ["pot"] sp_law_pool := by
  have G_law_take : FnOk P w K mg base CX0 1 (He.ga K "_law_take") T.fd_law_take ["pot", "many"] sp_law_take := ok_law_take T
  have b_law_take := b_law_take T
  refine T.F_law_pool.ok sc_law_pool (fun vs H Q E h => ?_) (fun cdv A outer st H vs Q E hr h => ?_)
  · obtain ⟨p, B, rfl, _⟩ := h
    rfl
  · obtain ⟨p, B, rfl, hp, hB, kq⟩ := h
    refine ⟨_, PSs.nox (pss_cons (ps_set (i := 1) sc_law_pool.nd rfl (Or.inr rfl) (pe_ix ix_list (RU.pe_lstS (pa_cons (RU.pe_lstS (pa_cons pe_int (pa_cons pe_int (pa_cons pe_int (pa_cons pe_int (pa_cons pe_int pa_nil)))))) (pa_cons (RU.pe_lstS (pa_cons pe_int (pa_cons pe_int (pa_cons pe_int (pa_cons pe_int pa_nil))))) (pa_cons (pe_listRg rfl rfl T.n_list (prg_1 rfl T.n_range pe_int)) pa_nil)))) (pe_call G_law_take (hr.mono (by first | decide | omega)) rfl T.g_law_take T.F_law_take.kp b_law_take .nil pass0 (pa_cons (pv 0) (pa_cons pe_int pa_nil))) (fun _ _ => rfl)))
 (pss_cons (ps_set (i := 2) sc_law_pool.nd rfl (Or.inl rfl) (pe_op op_add pe_int (pe_call G_law_take (hr.mono (by first | decide | omega)) rfl T.g_law_take T.F_law_take.kp b_law_take .nil pass0 (pa_cons (pv 0) (pa_cons pe_int pa_nil)))))
 (Evl.pss_cut (ps_if (pt_cmpR op_eq (pe_call G_law_take (hr.mono (by first | decide | omega)) rfl T.g_law_take T.F_law_take.kp b_law_take .nil pass0 (pa_cons (pv 0) (pa_cons pe_int pa_nil))) pe_int (nomark _))
 (pss_cons (ps_set (i := 1) sc_law_pool.nd rfl (Or.inr rfl) (pe_listRg rfl rfl T.n_list (prg_1 rfl T.n_range pe_int)))
 (pss_one (ps_set (i := 2) sc_law_pool.nd rfl (Or.inl rfl) (pe_op op_add pe_int (pe_call G_law_take (hr.mono (by first | decide | omega)) rfl T.g_law_take T.F_law_take.kp b_law_take .nil pass0 (pa_cons (pv 0) (pa_cons pe_int pa_nil)))))))
 pss_nil)
 (pss_one (ps_ret (pe_lc (own := [("k", 3)]) (g := gName 3) (tt := tYes) rfl sc_law_pool.nd (pi_range1 rfl T.n_range (pa_cons (pv 2) pa_nil)) (blkOk_by (own := [("k", 3)]) (N := ["pot", "left", "many", "k"]) (sc := defScope s_law_pool) (by decide +kernel)) (fun _ _ _ _ _ => (pg_name (i := 3) sc_law_pool.nd rfl (Or.inl rfl))) (fun _ _ _ _ _ => pts_nil) (fun _ _ _ _ _ => (EQT.pe_bmK K PySem.F.plainAttrs_list PySem.F.slot_list_pop PySem.F.type_list_pop mt_popAt (pv 1) (pa_cons (pe_call G_law_take (hr.mono (by first | decide | omega)) rfl T.g_law_take T.F_law_take.kp b_law_take .nil pass0 (pa_cons (pv 0) (pa_cons (pe_callB (lenK K) rfl T.n_len PySem.boot_len (pa_cons (pv 1) pa_nil)) pa_nil))) pa_nil))))))))), ?_⟩
    refine ⟨by show 5 ≤ sizeLine; decide, fun q1 H1 s1 n1 h1 => ⟨by show 4 ≤ sizeLine; decide, fun q2 H2 s2 n2 h2 => ⟨61, rfl, by unfold RgOk; decide, fun q3 n3 => ⟨by show 3 ≤ sizeLine; decide, fun l H4 s4 n4 h4 => ?_⟩⟩⟩⟩
    have s3 : Same H2 (upd H2 q3 (.lst (rgV 0 61))) := same_new n3
    have h3 : upd H2 q3 (.lst (rgV 0 61)) q3 = some (.lst (rgV 0 61)) := upd_same
    generalize upd H2 q3 (.lst (rgV 0 61)) = H3 at s3 h3 s4 n4
    have s04 := ((s1.trans s2).trans s3).trans s4
    refine ⟨_, rfl, p, 3, B, rfl, by decide, by decide, hp.same s04, by omega, fun H5 w5 b5 hp5 l5 u5 => ?_⟩
    have pick : ∃ (y : Addr) (ks : List Int), atI [V.ref q1, V.ref q2, V.ref q3] w5 = some (.ref y) ∧ Pgs H5 y ks ∧ H y = none ∧ p ≠ y ∧ 4 ≤ ks.length ∧ ks.length ≤ 61 := by
      rcases (by omega : w5 = 0 ∨ w5 = 1 ∨ w5 = 2) with rfl | rfl | rfl
      · exact ⟨q1, [0, 1, 2, 3, 4], rfl, ⟨b5 _ _ (hp.ne n1).symm (((s2.trans s3).trans s4) _ _ h1), by decide⟩, n1, hp.ne n1, by decide, by decide⟩
      · exact ⟨q2, [0, 7, 59, 60], rfl, ⟨b5 _ _ ((hp.same s1).ne n2).symm ((s3.trans s4) _ _ h2), by decide⟩, none_of s1 n2, (hp.same s1).ne n2, by decide, by decide⟩
      · refine ⟨q3, (List.range 61).map fun i : Nat => ((0 : Int) + (i : Int)), rfl, ⟨?_, fun x hx => ?_⟩, none_of (s1.trans s2) n3, (hp.same (s1.trans s2)).ne n3, ?_, ?_⟩
        · rw [← rg61]
          exact b5 _ _ ((hp.same (s1.trans s2)).ne n3).symm (s4 _ _ h3)
        · have z := rg61_mem hx
          omega
        · rw [List.length_map, List.length_range]; decide
        · rw [List.length_map, List.length_range]; decide
    obtain ⟨y, ks, hat, hy, ny, npy, k4, k61⟩ := pick
    have npl : p ≠ l := (hp.same ((s1.trans s2).trans s3)).ne n4
    refine ⟨l, _, _, .ref y, rfl, rfl, SqL.of (b5 _ _ npl.symm h4), hat, ?_⟩
    have b05 : But p H H5 := (But.of s04).trans b5
    refine ⟨_, rfl, p, 3, _, rfl, by decide, by decide, hp5, by omega, fun H6 w6 b6 hp6 l6 u6 => ⟨_, _, rfl, rfl, ?_⟩⟩
    refine ⟨fun σ' H' => ∃ (L : Addr) (ks : List Int) (m : Nat), σ' = [some (.ref p), some (.ref L), some (.int (m : Int)), none] ∧ But p H H' ∧ PotOk H' p (B + 5) ∧ Pgs H' L ks ∧ H L = none ∧ p ≠ L ∧ m ≤ ks.length ∧ 2 ≤ m ∧ m ≤ 9 ∧ ks.length ≤ 61, ?_, ?_⟩
    · refine ⟨_, rfl, p, 4, _, rfl, by decide, by decide, hp6, by omega, fun H7 w7 b7 hp7 l7 u7 => ⟨rfl, _, rfl, ?_⟩⟩
      have b07 := (b05.trans b6).trans b7
      cases decide (V.int w7 = V.int 0) with
      | true =>
        refine iteT ?_
        refine ⟨61, rfl, by unfold RgOk; decide, fun q8 n8 => ?_⟩
        have s8 : Same H7 (upd H7 q8 (.lst (rgV 0 61))) := same_new n8
        have h8 : upd H7 q8 (.lst (rgV 0 61)) q8 = some (.lst (rgV 0 61)) := upd_same
        generalize upd H7 q8 (.lst (rgV 0 61)) = H8 at s8 h8
        refine ⟨_, rfl, p, 5, _, rfl, by decide, by decide, hp7.same s8, by omega, fun H9 w9 b9 hp9 l9 u9 => ⟨_, _, rfl, rfl, ?_⟩⟩
        refine ⟨q8, (List.range 61).map fun i : Nat => ((0 : Int) + (i : Int)), (5 + w9).toNat, ?_, (b07.trans (But.of s8)).trans b9, hp9.le (by omega), ⟨?_, fun x hx => ?_⟩, none_but b07 hp7 n8, hp7.ne n8, ?_, by omega, by omega, ?_⟩
        · rw [show (((5 + w9).toNat : Nat) : Int) = 5 + w9 by omega]
          rfl
        · rw [← rg61]
          exact b9 _ _ (hp7.ne n8).symm h8
        · have z := rg61_mem hx
          omega
        · rw [List.length_map, List.length_range]; omega
        · rw [List.length_map, List.length_range]; decide
      | false =>
        refine iteF ⟨y, ks, (2 + w6).toNat, ?_, b07, hp7.le (by omega), (hy.but b6 npy.symm).but b7 npy.symm, ny, npy, by omega, by omega, by omega, k61⟩
        rw [show (((2 + w6).toNat : Nat) : Int) = 2 + w6 by omega]
        rfl
    · rintro σ H7 ⟨L, ks, m, rfl, b7, hp7, hL, nL, npL, hm, m2, m9, h61⟩
      refine ⟨_, rfl, (m : Int), rfl, by omega, by omega, fun D hD => ?_⟩
      have nDL : L ≠ D := ne_of_none hL.1 hD
      refine lc_it walk_range (fun i H' => But p H H' ∧ PotOk H' p (B + 5 + (i : Int)) ∧ ∃ (js ns : List Int), Pgs H' L js ∧ js.length + i = ks.length ∧ Pgs H' D ns ∧ ns.length = i) ⟨b7.trans (But.of (same_new hD)), (hp7.same (same_new hD)).le (by omega), ks, [], ⟨same_new hD _ _ hL.1, hL.2⟩, by omega, ⟨upd_same, nofun⟩, rfl⟩ (fun _ _ _ _ => trivial) ?_ ?_
      · rintro i x H8 H9 hi ⟨b8, hp8, js, ns, hj, ej, hn, en⟩ ⟨rfl, rfl⟩
        refine ⟨rfl, ?_⟩
        dsimp only [tYes]
        rw [if_pos rfl]
        refine ⟨_, rfl, .inl ⟨rfl, _, SqL.of hj.1⟩, _, rfl, _, rfl, L, _, rfl, .inl (SqL.of hj.1), ?_⟩
        rw [List.length_map]
        refine ⟨p, (js.length : Int), _, rfl, by omega, by omega, hp8, by omega, fun H10 w10 b10 hp10 l10 u10 => ?_⟩
        have hj10 := hj.but b10 npL.symm
        have npD : p ≠ D := hp7.ne hD
        have hn10 := hn.but b10 npD.symm
        obtain ⟨y, hy⟩ : ∃ y, js[w10.toNat]? = some y := ⟨js[w10.toNat]'(by omega), List.getElem?_eq_getElem _⟩
        have hyr := hj.2 y (List.mem_of_getElem? hy)
        refine ⟨L, _, w10, w10.toNat, .int y, rfl, rfl, hj10.1, by omega, by omega, ?_, by rw [List.getElem?_map, hy]; rfl, ?_⟩
        · rw [List.length_map]
          exact seqIndex_of l10 (by omega)
        have e1 : (js.map V.int).eraseIdx w10.toNat = (js.eraseIdx w10.toNat).map V.int := by
          exact erase_map V.int js w10.toNat
        rw [e1]
        have hD11 : upd H10 L (.lst ((js.eraseIdx w10.toNat).map V.int)) D = some (.lst (ns.map V.int)) := by
          rw [upd_ne nDL.symm]
          exact hn10.1
        have hL11 : upd H10 L (.lst ((js.eraseIdx w10.toNat).map V.int)) L = some (.lst ((js.eraseIdx w10.toNat).map V.int)) := upd_same
        have b11 : But p H (upd H10 L (.lst ((js.eraseIdx w10.toNat).map V.int))) := fun b o nb z => by
          rw [upd_ne (ne_of_none z nL)]
          exact (b8.trans b10) b o nb z
        have hp11 : PotOk (upd H10 L (.lst ((js.eraseIdx w10.toNat).map V.int))) p (B + 5 + (i : Int) + 1) := hp10.put npL
        generalize upd H10 L (.lst ((js.eraseIdx w10.toNat).map V.int)) = H11 at hD11 hL11 b11 hp11
        have nD : H D = none := none_but b7 hp7 hD
        refine ⟨_, hD11, ?_, ?_, ?_, js.eraseIdx w10.toNat, ns ++ [y], ⟨?_, fun n hn => hj.2 n (List.mem_of_mem_eraseIdx hn)⟩, ?_, ⟨?_, fun n hn' => ?_⟩, ?_⟩
        · rw [List.length_map]
          exact Nat.lt_of_le_of_lt (by omega : _ ≤ 100) (by decide)
        · intro b o nb z
          rw [upd_ne (ne_of_none z nD)]
          exact b11 b o nb z
        · exact (hp11.put npD).le (by omega)
        · rw [upd_ne nDL]
          exact hL11
        · rw [List.length_eraseIdx_of_lt (by omega)]
          omega
        · rw [upd_same, List.map_append]
          rfl
        · rcases List.mem_append.mp hn' with h | h
          · exact hn.2 n h
          · obtain rfl := List.mem_singleton.mp h
            exact hyr
        · rw [List.length_append, List.length_singleton]
          omega
      · rintro H8 ⟨b8, hp8, js, ns, hj, ej, hn, en⟩
        exact kq H8 D ns b8 (hp8.le (by omega)) (none_but b7 hp7 hD) (hp7.ne hD) hn (by omega) (by omega)
/-! tests by their parts -/
def AnsR (t : TT) (σ : L2.St) (H : Hp) (C : Bool → Hp → Prop) : Prop := ∀ Q : Bool → Hp → Prop, (∀ c H', C c H' → Q c H') → t σ H Q
theorem AnsR.use {t : TT} {σ : L2.St} {H : Hp} {k : Bool → Hp → Prop} (C : Bool → Hp → Prop) (a : AnsR t σ H C) (h : ∀ c H', C c H' → k c H') : t σ H k := a k h
theorem AnsR.ifS {t : TT} {a b : TS} {D : Ends} {σ : L2.St} {H : Hp} (C : Bool → Hp → Prop) (h : AnsR t σ H C) (k : ∀ c H', C c H' → if c = true then a D σ H' else b D σ H') : tIfS t a b D σ H := h _ k
theorem AnsR.and {t u : TT} {σ : L2.St} {H : Hp} {C : Bool → Hp → Prop} (C1 : Bool → Hp → Prop) (ht : AnsR t σ H C1) (hu : ∀ H', C1 true H' → AnsR u σ H' C) (hf : ∀ H', C1 false H' → C false H') : AnsR (tAnd t u) σ H C := fun Q h => ht _ fun c H' hc => by
  cases c with
  | true => exact (if_pos rfl).symm ▸ hu H' hc Q h
  | false => exact (if_neg Bool.false_ne_true).symm ▸ h _ _ (hf H' hc)
theorem AnsR.or {t u : TT} {σ : L2.St} {H : Hp} {C : Bool → Hp → Prop} (C1 : Bool → Hp → Prop) (ht : AnsR t σ H C1) (hu : ∀ H', C1 false H' → AnsR u σ H' C) (hf : ∀ H', C1 true H' → C true H') : AnsR (tOr t u) σ H C := fun Q h => ht _ fun c H' hc => by
  cases c with
  | false => exact (if_neg Bool.false_ne_true).symm ▸ hu H' hc Q h
  | true => exact (if_pos rfl).symm ▸ h _ _ (hf H' hc)
/-! steps as they are made -/
def StpOk (xs : List V) : Prop := ∃ n : Int, 0 ≤ n ∧ n ≤ 60 ∧ (xs = [.str "let", .int n] ∨ ∃ b : Bool, xs = [.str "take", .int n, .bl b])
def StA (H : Hp) (x : V) (xs : List V) : Prop := ∃ q, x = .ref q ∧ FzT H q xs ∧ StpOk xs
theorem StA.keep {H H' : Hp} (k : Keep H H') {x : V} {xs : List V} (h : StA H x xs) : StA H' x xs := by
  obtain ⟨q, e, h1, h2⟩ := h
  exact ⟨q, e, h1.keep k, h2⟩
theorem StpOk.ok1 {xs : List V} (h : StpOk xs) : (st1 (some xs)).isSome = true := by
  obtain ⟨n, h0, h1, h⟩ := h
  rcases h with rfl | ⟨b, rfl⟩
  · show (stepX [V.str "let", V.int n]).isSome = true
    rw [step2]
    show (isStr (.str "let") "let" && (decide (0 ≤ n) && decide (n ≤ 60))) = true
    rw [decide_eq_true h0, decide_eq_true h1]
    decide +kernel
  · show (stepX [V.str "take", V.int n, V.bl b]).isSome = true
    rw [step3]
    show (isStr (.str "take") "take" && ((decide (0 ≤ n) && decide (n ≤ 60)) && true)) = true
    rw [decide_eq_true h0, decide_eq_true h1]
    decide +kernel
theorem StpOk.scal {xs : List V} (h : StpOk xs) : ∀ y ∈ xs, ∃ s, y = s ∧ scal y (.str Str.empty) = true := by
  obtain ⟨n, h0, h1, h⟩ := h
  intro y hy
  rcases h with rfl | ⟨b, rfl⟩
  · simp only [List.mem_cons, List.not_mem_nil, or_false] at hy
    rcases hy with rfl | rfl <;> exact ⟨_, rfl, rfl⟩
  · simp only [List.mem_cons, List.not_mem_nil, or_false] at hy
    rcases hy with rfl | rfl | rfl <;> exact ⟨_, rfl, rfl⟩
theorem l0_scal {K : PySem.W.Frag} {p : Addr} {H : Hp} : ∀ {xs : List V}, (∀ y ∈ xs, ∃ s, y = s ∧ scal y (.str Str.empty) = true) → Paired (L0 K p H) xs xs
  | [], _ => .nil
  | x :: xs, h => by
    obtain ⟨_, _, hs⟩ := h x (List.mem_cons_self ..)
    exact .cons ⟨rfl, scal_thg hs, fun e => by rw [e] at hs; cases hs⟩ (l0_scal fun y hy => h y (List.mem_cons_of_mem _ hy))
theorem FzT.ne {H : Hp} {p q : Addr} {B : Int} {xs : List V} (hp : PotOk H p B) (h : FzT H q xs) : p ≠ q := fun e => by
  obtain ⟨x, y, c, h1, _⟩ := hp
  obtain ⟨o, h2, _⟩ := h
  rw [← e, h1] at h2
  cases h2
theorem StA.stp {H : Hp} {p : Addr} {B : Int} (hp : PotOk H p B) {x : V} {xs : List V} (h : StA H x xs) : Stp K p H x (some xs) := by
  obtain ⟨q, rfl, h1, h2⟩ := h
  exact Lv.tup h1.sq (l0_scal h2.scal) (h1.ne hp)
/-- a plan as it is made -/
def GoodSs (ss : List (Option (List V))) : Prop := ss.length ≤ 64 ∧ ∀ s ∈ ss, (st1 s).isSome = true
theorem PlnA {H : Hp} {p d : Addr} {B : Int} {xs : List V} {ys : List (List V)} (hp : PotOk H p B) (hd : FzT H d xs) (h : Paired (StA H) xs ys) (l : xs.length ≤ 64) : ∃ ss, Pln K p H (.ref d) (some ss) ∧ GoodSs ss := by
  refine ⟨ys.map some, Lv.tup hd.sq ?_ (hd.ne hp), ?_, ?_⟩
  · have go : ∀ {xs : List V} {ys : List (List V)}, Paired (StA H) xs ys → Paired (Stp K p H) xs (ys.map some) := by
      intro xs ys h
      induction h with
      | nil => exact .nil
      | cons r _ ih => exact .cons (r.stp hp) ih
    exact go h
  · rw [List.length_map, ← h.length]
    exact l
  · intro s hs
    obtain ⟨y, hy, rfl⟩ := List.mem_map.mp hs
    obtain ⟨i, hi⟩ := List.getElem?_of_mem hy
    have hl := h.length
    obtain ⟨z, hz⟩ : ∃ z, xs[i]? = some z := ⟨xs[i]'(by have := (List.getElem?_eq_some_iff.mp hi).1; omega), List.getElem?_eq_getElem _⟩
    obtain ⟨y', hy', r⟩ := pget1 h hz
    rw [hi] at hy'
    cases hy'
    obtain ⟨q, _, _, hok⟩ := r
    exact hok.ok1
def PlA (H : Hp) (x : V) (ys : List (List V)) : Prop := ∃ q xs, x = .ref q ∧ FzT H q xs ∧ Paired (StA H) xs ys ∧ xs.length ≤ 64
theorem PlA.keep {H H' : Hp} (k : Keep H H') {x : V} {ys : List (List V)} (h : PlA H x ys) : PlA H' x ys := by
  obtain ⟨q, xs, e, h1, h2, h3⟩ := h
  exact ⟨q, xs, e, h1.keep k, paired_imp (fun _ _ r => StA.keep k r) h2, h3⟩
def sp_law_plan : Sp := fun vs H Q _ => ∃ (p a : Addr) (ns : List Int) (most : Int) (ord : Bool) (B : Int), vs = [.ref p, .ref a, .int most, .bl ord] ∧ PotOk H p B ∧ B < 2 ^ 37 ∧ Pgs H a ns ∧ p ≠ a ∧ 2 ≤ ns.length ∧ ns.length ≤ 9 ∧ 4 ≤ most ∧ most ≤ 16 ∧
  ∀ (H' : Hp) (d : Addr) (ys : List (List V)), But p H H' → PotOk H' p (B + 200) → PlA H' (.ref d) ys → Q (.ref d) H'
/-- the pages held and the steps so far -/
structure PlIn (p : Addr) (ns : List Int) (H0 H : Hp) (L D : Addr) (B : Int) (n : Nat) : Prop where
  but : But p H0 H
  pot : PotOk H p B
  lst : ∃ xs ys, H L = some (.lst xs) ∧ Paired (StA H) xs ys ∧ xs.length ≤ n
  held : ∃ hs : List Int, H D = some (.lst (hs.map V.int)) ∧ (∀ h ∈ hs, h ∈ ns) ∧ hs.length ≤ n
  nL : H0 L = none
  nD : H0 D = none
  pL : p ≠ L
  pD : p ≠ D
  LD : L ≠ D
theorem PlIn.go {p : Addr} {ns : List Int} {H0 H H' : Hp} {L D : Addr} {B B' : Int} {n : Nat} (I : PlIn p ns H0 H L D B n) (b : But p H H') (hp : PotOk H' p B') : PlIn p ns H0 H' L D B' n := by
  obtain ⟨xs, ys, h1, h2, h3⟩ := I.lst
  obtain ⟨hs, g1, g2, g3⟩ := I.held
  exact ⟨I.but.trans b, hp, ⟨xs, ys, b _ _ I.pL.symm h1, paired_imp (fun _ _ r => StA.keep (I.pot.keep b) r) h2, h3⟩, ⟨hs, b _ _ I.pD.symm g1, g2, g3⟩, I.nL, I.nD, I.pL, I.pD, I.LD⟩
theorem PlIn.same {p : Addr} {ns : List Int} {H0 H H' : Hp} {L D : Addr} {B : Int} {n : Nat} (I : PlIn p ns H0 H L D B n) (s : Same H H') : PlIn p ns H0 H' L D B n := I.go (But.of s) (I.pot.same s)
theorem PlIn.le {p : Addr} {ns : List Int} {H0 H : Hp} {L D : Addr} {B B' : Int} {n n' : Nat} (I : PlIn p ns H0 H L D B n) (h : B ≤ B') (k : n ≤ n') : PlIn p ns H0 H L D B' n' := by
  obtain ⟨xs, ys, h1, h2, h3⟩ := I.lst
  obtain ⟨hs, g1, g2, g3⟩ := I.held
  exact ⟨I.but, I.pot.le h, ⟨xs, ys, h1, h2, by omega⟩, ⟨hs, g1, g2, by omega⟩, I.nL, I.nD, I.pL, I.pD, I.LD⟩
/-- one step more -/
theorem PlIn.step {p : Addr} {ns : List Int} {H0 H : Hp} {L D : Addr} {B : Int} {n : Nat} (I : PlIn p ns H0 H L D B n) {xs : List V} {ys : List (List V)} {y : V} {z : List V} (h : H L = some (.lst xs)) (hx : Paired (StA H) xs ys) (hl : xs.length ≤ n) (hy : StA H y z) : PlIn p ns H0 (upd H L (.lst (xs ++ [y]))) L D B (n + 1) := by
  obtain ⟨hs, g1, g2, g3⟩ := I.held
  have k : Keep H (upd H L (.lst (xs ++ [y]))) := (Keep.refl H).upd fun u e => by
    rw [h] at e
    cases e
    rfl
  refine ⟨fun b o nb e => ?_, I.pot.put I.pL, ⟨xs ++ [y], ys ++ [z], upd_same, ?_, ?_⟩, ⟨hs, ?_, g2, by omega⟩, I.nL, I.nD, I.pL, I.pD, I.LD⟩
  · rw [upd_ne (ne_of_none e I.nL)]
    exact I.but b o nb e
  · exact paired_app (paired_imp (fun _ _ r => StA.keep k r) hx) (paired_one (hy.keep k))
  · rw [List.length_append, List.length_singleton]
    omega
  · rw [upd_ne I.LD.symm]
    exact g1
/-- the held pages anew -/
theorem PlIn.hold {p : Addr} {ns : List Int} {H0 H : Hp} {L D : Addr} {B : Int} {n : Nat} (I : PlIn p ns H0 H L D B n) {hs : List Int} (sub : ∀ h ∈ hs, h ∈ ns) (hl : hs.length ≤ n) : PlIn p ns H0 (upd H D (.lst (hs.map V.int))) L D B n := by
  obtain ⟨xs, ys, h1, h2, h3⟩ := I.lst
  obtain ⟨hs0, g1, g2, g3⟩ := I.held
  have k : Keep H (upd H D (.lst (hs.map V.int))) := (Keep.refl H).upd fun u e => by
    rw [g1] at e
    cases e
    rfl
  refine ⟨fun b o nb e => ?_, I.pot.put I.pD, ⟨xs, ys, ?_, paired_imp (fun _ _ r => StA.keep k r) h2, h3⟩, ⟨hs, upd_same, sub, hl⟩, I.nL, I.nD, I.pL, I.pD, I.LD⟩
  · rw [upd_ne (ne_of_none e I.nD)]
    exact I.but b o nb e
  · rw [upd_ne I.LD]
    exact h1
theorem idx_first {x : Int} : ∀ {l : List Int}, x ∈ l → ∃ j : Nat, l[j]? = some x ∧ ∀ (m : Nat) (z : Int), m < j → l[m]? = some z → z ≠ x
  | a :: l, h => by
    by_cases c : a = x
    · exact ⟨0, by rw [c]; rfl, fun m z hm => (by omega)⟩
    · obtain ⟨j, h1, h2⟩ := idx_first (l := l) ((List.mem_cons.mp h).resolve_left fun e => c e.symm)
      refine ⟨j + 1, h1, fun m z hm hz => ?_⟩
      cases m with
      | zero =>
        cases hz
        exact c
      | succ m => exact h2 m z (by omega) hz
theorem ok_law_plan (T : TX K mg) : FnOk P w K mg base CX0 2 (He.ga K "_law_plan") T.fd_law_plan ["pot", "pool", "most", "ordered"] sp_law_plan := by
  have G_law_take : FnOk P w K mg base CX0 1 (He.ga K "_law_take") T.fd_law_take ["pot", "many"] sp_law_take := ok_law_take T
  have b_law_take := b_law_take T
  refine T.F_law_plan.ok sc_law_plan (fun vs H Q E h => ?_) (fun cdv A outer st H vs Q E hr h => ?_)
  · obtain ⟨p, a, ns, most, ord, B, rfl, _⟩ := h
    rfl
  · obtain ⟨p, a, ns, most, ord, B, rfl, hp, hB, ha, npa, n2, n9, m4, m16, kq⟩ := h
    refine ⟨_, PSs.nox (pss_cons (ps_set (i := 4) sc_law_plan.nd rfl (Or.inl rfl) (RU.pe_lstS pa_nil))
 (pss_cons (ps_set (i := 5) sc_law_plan.nd rfl (Or.inr rfl) (RU.pe_lstS pa_nil))
 (pss_cons (ps_for PassesOwn.never rfl (pi_range1 rfl T.n_range (pa_cons (pe_call G_law_take (hr.mono (by first | decide | omega)) rfl T.g_law_take T.F_law_take.kp b_law_take .nil pass0 (pa_cons (pv 0) (pa_cons (pe_op op_add (pv 2) pe_int) pa_nil))) pa_nil)) (pg_name (i := 6) sc_law_plan.nd rfl (Or.inl rfl))
 (pss_cons (ps_setLc (i := 7) (own := [("page", 9)]) (g := gName 9) (tt := _) rfl sc_law_plan.nd rfl rfl (sw_true rfl rfl rfl (by decide +kernel)) (pi_list (pv 1)) (blkOk_by (own := [("page", 9)]) (N := ["pot", "pool", "most", "ordered", "plan", "held", "turn", "free", "space", "page"]) (sc := defScope s_law_plan) (by decide +kernel)) (fun _ _ _ _ _ => (pg_name (i := 9) sc_law_plan.nd rfl (Or.inl rfl))) (fun _ _ _ _ _ => pts_one (pt_cmpR (notInK K) (pv 9) (pv 5) rfl)) (fun _ _ _ _ _ => (pv 9)))
 (Evl.pss_cut (ps_if (PW.pt (pw_and (pt_val (pv 3)) (pw_and1 (pt_cmpR (op_neD hr.units) (pv 5) (RU.pe_lstS pa_nil) (nomark _)))))
 (pss_one (ps_set (i := 7) sc_law_plan.nd rfl (Or.inl rfl) (pe_slice RU.sl_lstS (pv 1) (po_some (pe_op op_add pe_int (pe_callB (cr_max rfl) rfl T.n_max (by decide +kernel) (pa_cons (pe_lc (own := [("page", 9)]) (g := gName 9) (tt := tYes) rfl sc_law_plan.nd (pi_list (pv 5)) (blkOk_by (own := [("page", 9)]) (N := ["pot", "pool", "most", "ordered", "plan", "held", "turn", "free", "space", "page"]) (sc := defScope s_law_plan) (by decide +kernel)) (fun _ _ _ _ _ => (pg_name (i := 9) sc_law_plan.nd rfl (Or.inl rfl))) (fun _ _ _ _ _ => pts_nil) (fun _ _ _ _ _ => (EQT.pe_bmK K PySem.F.plainAttrs_list PySem.F.slot_list_index PySem.F.type_list_index (EQT.mt_indexK K) (pv 1) (pa_cons (pv 9) pa_nil)))) pa_nil)))) po_none)))
 pss_nil)
 (pss_cons (ps_set (i := 8) sc_law_plan.nd rfl (Or.inl rfl) (pe_cmpR op_le (pe_op op_add (pe_op op_add (pe_callB call_len_seq rfl T.n_len PySem.boot_len (pa_cons (pv 4) pa_nil)) (pe_callB call_len_seq rfl T.n_len PySem.boot_len (pa_cons (pv 5) pa_nil))) pe_int) (pv 2) (nomark _)))
 (pss_one (ps_if (PW.pt (pw_and (pt_val (pv 8)) (pw_and (pt_cmpR (op_neD hr.units) (pv 7) (RU.pe_lstS pa_nil) (nomark _)) (pw_and1 (PW.pt (pw_or (pt_cmpR (op_eqD hr.units) (pv 5) (RU.pe_lstS pa_nil) (nomark _)) (pw_or1 (pt_cmpR op_gt (pe_call G_law_take (hr.mono (by first | decide | omega)) rfl T.g_law_take T.F_law_take.kp b_law_take .nil pass0 (pa_cons (pv 0) (pa_cons pe_int pa_nil))) pe_int (nomark _)))))))))
 (pss_cons (ps_expr (pe_bm PySem.F.plainAttrs_list PySem.F.slot_list_append PySem.F.type_list_append mt_append (pv 4) (pa_cons (RU.pe_tupS (pa_cons pe_str (pa_cons (pe_ix ix_list (pv 7) (pe_call G_law_take (hr.mono (by first | decide | omega)) rfl T.g_law_take T.F_law_take.kp b_law_take .nil pass0 (pa_cons (pv 0) (pa_cons (pe_callB call_len_seq rfl T.n_len PySem.boot_len (pa_cons (pv 7) pa_nil)) pa_nil))) (fun _ _ => rfl)) (pa_cons (pe_cmpR op_gt (pe_call G_law_take (hr.mono (by first | decide | omega)) rfl T.g_law_take T.F_law_take.kp b_law_take .nil pass0 (pa_cons (pv 0) (pa_cons pe_int pa_nil))) pe_int (nomark _)) pa_nil)))) pa_nil)))
 (pss_one (ps_expr (pe_bm PySem.F.plainAttrs_list PySem.F.slot_list_append PySem.F.type_list_append mt_append (pv 5) (pa_cons (pe_ix ix_tup (pe_ix ix_list (pv 4) (pe_un un_neg pe_int) (fun _ _ => rfl)) pe_int (fun _ _ => rfl)) pa_nil)))))
 (pss_one (ps_if (pt_cmpR (op_neD hr.units) (pv 5) (RU.pe_lstS pa_nil) (nomark _))
 (pss_one (ps_expr (pe_bm PySem.F.plainAttrs_list PySem.F.slot_list_append PySem.F.type_list_append mt_append (pv 4) (pa_cons (RU.pe_tupS (pa_cons pe_str (pa_cons (pe_bm PySem.F.plainAttrs_list PySem.F.slot_list_pop PySem.F.type_list_pop mt_popAt (pv 5) (pa_cons (pe_call G_law_take (hr.mono (by first | decide | omega)) rfl T.g_law_take T.F_law_take.kp b_law_take .nil pass0 (pa_cons (pv 0) (pa_cons (pe_callB call_len_seq rfl T.n_len PySem.boot_len (pa_cons (pv 5) pa_nil)) pa_nil))) pa_nil)) pa_nil))) pa_nil))))
 pss_nil))))))))
 (pss_cons (ps_while PassesOwn.never (pt_cmpR (op_neD hr.units) (pv 5) (RU.pe_lstS pa_nil) (nomark _))
 (pss_one (ps_expr (pe_bm PySem.F.plainAttrs_list PySem.F.slot_list_append PySem.F.type_list_append mt_append (pv 4) (pa_cons (RU.pe_tupS (pa_cons pe_str (pa_cons (pe_bm PySem.F.plainAttrs_list PySem.F.slot_list_pop PySem.F.type_list_pop mt_popAt (pv 5) (pa_cons (pe_call G_law_take (hr.mono (by first | decide | omega)) rfl T.g_law_take T.F_law_take.kp b_law_take .nil pass0 (pa_cons (pv 0) (pa_cons (pe_callB call_len_seq rfl T.n_len PySem.boot_len (pa_cons (pv 5) pa_nil)) pa_nil))) pa_nil)) pa_nil))) pa_nil)))))
 (pss_one (ps_ret (pe_callTy RU.call_tupS rfl T.n_tuple (by decide +kernel) (pa_cons (pv 4) pa_nil)))))))), ?_⟩
    refine ⟨Nat.zero_le _, fun L H1 s1 nL hL => ⟨Nat.zero_le _, fun D H2 s2 nD hD => ?_⟩⟩
    refine ⟨_, rfl, _, rfl, _, _, rfl, rfl, p, most + 1, B, rfl, by omega, by omega, hp.same (s1.trans s2), by omega, fun H3 w3 b3 hp3 l3 u3 => ⟨w3, rfl, by omega, by omega, ?_⟩⟩
    have hL3 := b3 _ _ (hp.ne nL).symm (s2 _ _ hL)
    have hD3 := b3 _ _ ((hp.same s1).ne nD).symm hD
    have I0 : PlIn p ns H H3 L D (B + 1 + 4 * ((0 : Nat) : Int)) 0 := ⟨(But.of (s1.trans s2)).trans b3, hp3.le (by omega), ⟨[], [], hL3, .nil, Nat.le_refl 0⟩, ⟨[], hD3, nofun, Nat.le_refl 0⟩, nL, none_of s1 nD, hp.ne nL, (hp.same s1).ne nD, ne_of_none hL nD⟩
    refine for_range (n := w3.toNat) (fun i σ H' => ∃ v6 v7 v8 v9, σ = [some (.ref p), some (.ref a), some (.int most), some (.bl ord), some (.ref L), some (.ref D), v6, v7, v8, v9] ∧ PlIn p ns H H' L D (B + 1 + 4 * (i : Int)) i) ⟨_, _, _, _, rfl, I0⟩ ?_ ?_
    · rintro i σ H4 hi ⟨v6, v7, v8, v9, rfl, I⟩
      have npL := I.pL
      have npD := I.pD
      have nLD := I.LD
      obtain ⟨hs, hDh, hsub, hsl⟩ := I.held
      refine ⟨_, rfl, a, rfl, ⟨_, SqL.of (I.but _ _ npa.symm ha.1)⟩, fun F hF => ?_⟩
      refine lc_it walk_list (fun j H' => Same H4 H' ∧ H' F = some (.lst (((ns.take j).filter fun m => !decide (m ∈ hs)).map V.int))) ⟨same_new hF, upd_same⟩ (fun j H' _ z => SqL.of (z.1 _ _ (I.but _ _ npa.symm ha.1))) ?_ ?_
      · rintro j x H8 H9 hj ⟨s8, hF8⟩ ⟨rfl, hx⟩
        obtain ⟨m, hm, rfl⟩ : ∃ m, ns[j]? = some m ∧ x = .int m := by
          rw [List.getElem?_map] at hx
          cases e : ns[j]? with
          | none => rw [e] at hx; cases hx
          | some m => rw [e] at hx; cases hx; exact ⟨m, rfl, rfl⟩
        refine ⟨rfl, _, rfl, _, rfl, D, hs.map V.int, rfl, .inl (SqL.of (s8 _ _ hDh)), rfl, flat_ints', _, rfl, ?_⟩
        rw [if_pos rfl, inV_int', take_more hm, List.filter_append]
        by_cases c : m ∈ hs
        · rw [decide_eq_true c]
          refine iteF ⟨s8, ?_⟩
          rw [hF8, List.filter_cons, decide_eq_true c]
          show _ = some (HO.lst ((_ ++ []).map V.int))
          rw [List.append_nil]
        · rw [decide_eq_false c]
          refine iteT ⟨_, rfl, _, hF8, ?_, same_upd s8 hF, ?_⟩
          · rw [List.length_map]
            exact Nat.lt_of_le_of_lt (Nat.le_trans (List.length_filter_le _ _) (by rw [List.length_take]; omega) : _ ≤ 2000) (by decide)
          · rw [upd_same, List.filter_cons, decide_eq_false c, List.map_append]
            rfl
      · rintro H5 ⟨s5, hF5⟩
        have sub0 : ∀ m ∈ ((ns.take ((ns.map V.int).length)).filter fun m => !decide (m ∈ hs)), m ∈ ns := fun m hm => List.mem_of_mem_take (List.mem_filter.mp hm).1
        have l0 : ((ns.take ((ns.map V.int).length)).filter fun m => !decide (m ∈ hs)).length ≤ 9 := Nat.le_trans (List.length_filter_le _ _) (by rw [List.length_take]; omega)
        generalize ((ns.take ((ns.map V.int).length)).filter fun m => !decide (m ∈ hs)) = fs at hF5 sub0 l0
        have I5 := I.same s5
        refine ⟨fun σ' H' => ∃ (F : Addr) (fs : List Int) (v8 v9 : Option V), σ' = [some (.ref p), some (.ref a), some (.int most), some (.bl ord), some (.ref L), some (.ref D), some (.int (0 + (i : Int))), some (.ref F), v8, v9] ∧ PlIn p ns H H' L D (B + 1 + 4 * (i : Int)) i ∧ H' F = some (.lst (fs.map V.int)) ∧ (∀ m ∈ fs, m ∈ ns) ∧ p ≠ F ∧ fs.length ≤ 9, ?_, ?_⟩
        · refine AnsR.use (fun c H' => (c = true → hs ≠ []) ∧ Same H5 H') ?_ ?_
          · refine AnsR.and (fun c H' => H' = H5) (fun Q hq => ⟨_, rfl, _, rfl, hq _ _ rfl⟩) (fun H' e => ?_) (fun H' e => ⟨nofun, e ▸ Same.refl _⟩)
            subst e
            refine fun Q hq => ⟨_, rfl, Nat.zero_le _, fun q H6 s6 nq hq6 => ⟨.list (hs.map PyData.int), .list (([] : List Int).map PyData.int), .lst (SqL.of (s6 _ _ (s5 _ _ hDh))) (dpa_ints _), .lst (SqL.of hq6) .nil, shaped_ints _, shaped_ints _, _, rfl, ?_⟩⟩
            rw [eqv_ints]
            refine hq _ _ ⟨fun e => ?_, s6⟩
            by_cases c : hs = []
            · rw [decide_eq_true c] at e
              cases e
            · exact c
          · rintro c H6 ⟨hne, s6⟩
            have I6 := I5.same s6
            cases c with
            | false => exact iteF ⟨F, fs, _, _, rfl, I6, s6 _ _ hF5, sub0, I.pot.ne hF, l0⟩
            | true =>
              have hD6 := s6 _ _ (s5 _ _ hDh)
              refine iteT ⟨_, rfl, _, rfl, D, rfl, ⟨_, SqL.of hD6⟩, fun G hG => ?_⟩
              have ha6 := I6.but _ _ npa.symm ha.1
              refine lc_it walk_list (fun j H' => Same H6 H' ∧ ∃ js : List Int, H' G = some (.lst (js.map V.int)) ∧ js.length = j) ⟨same_new hG, [], upd_same, rfl⟩ (fun j H' _ z => SqL.of (z.1 _ _ hD6)) ?_ ?_
              · rintro j x H8 H9 hj ⟨s8, js, hG8, ej⟩ ⟨rfl, hx⟩
                obtain ⟨m, hm, rfl⟩ : ∃ m, hs[j]? = some m ∧ x = .int m := by
                  rw [List.getElem?_map] at hx
                  cases e : hs[j]? with
                  | none => rw [e] at hx; cases hx
                  | some m => rw [e] at hx; cases hx; exact ⟨m, rfl, rfl⟩
                obtain ⟨t, ht1, ht2⟩ := idx_first (hsub m (List.mem_of_getElem? hm))
                refine ⟨rfl, ?_⟩
                dsimp only [tYes]
                rw [if_pos rfl]
                refine ⟨_, rfl, .inl ⟨rfl, _, SqL.of (s8 _ _ ha6)⟩, _, rfl, a, _, _, t, .int m, rfl, rfl, SqL.of (s8 _ _ ha6), rfl, flat_ints', by rw [List.getElem?_map, ht1]; rfl, by simp [eqV], fun q z' hq hz => ?_, _, hG8, ?_, same_upd s8 hG, js ++ [(t : Int)], ?_, ?_⟩
                · rw [List.getElem?_map] at hz
                  cases e : ns[q]? with
                  | none => rw [e] at hz; cases hz
                  | some v =>
                    rw [e] at hz
                    cases hz
                    have := ht2 q v hq e
                    show eqV (.int v) (.int m) = false
                    simp [eqV, this]
                · rw [List.length_map]
                  have := (List.getElem?_eq_some_iff.mp hm).1
                  exact Nat.lt_of_le_of_lt (by omega : _ ≤ 100) (by decide)
                · rw [upd_same, List.map_append]
                  rfl
                · rw [List.length_append, List.length_singleton, ej]
              · rintro H8 ⟨s8, js, hG8, ej⟩
                rw [List.length_map] at ej
                refine ⟨G, js, rfl, SqL.of hG8, ?_, fun m hm hmax => ⟨_, _, rfl, rfl, ?_⟩⟩
                · have := List.length_pos_iff.mpr (hne rfl)
                  omega
                refine ⟨_, rfl, a, _, rfl, SqL.of (s8 _ _ ha6), fun F2 H10 s10 nF2 hF2 => ?_⟩
                have ec : cutV (ns.map V.int) (some (1 + m)) none = (cutA ns (some (1 + m)) none).map V.int := (cutA_map V.int ns (some (1 + m)) none).symm
                rw [ec] at hF2
                exact ⟨F2, _, _, _, rfl, I6.same (s8.trans s10), hF2, fun x hx => cutA_mem hx, (I6.same s8).pot.ne nF2, Nat.le_trans cutA_length (by omega)⟩
        · rintro σ H6 ⟨F, fs, v8, v9, rfl, I6, hF6, hfs, npF, hfl⟩
          obtain ⟨xs, ys, hL6, hxy, hxl⟩ := I6.lst
          obtain ⟨hs, hD6, hsub, hsl⟩ := I6.held
          refine ⟨_, rfl, L, _, rfl, .inl (SqL.of hL6), _, rfl, D, _, rfl, .inl (SqL.of hD6), _, _, rfl, rfl, _, _, rfl, rfl, _, rfl, _, _, rfl, rfl, ?_⟩
          generalize decide ((((xs.length : Nat) : Int) + (((hs.map V.int).length : Nat) : Int)) + 2 ≤ most) = space
          unfold gName
          dsimp only
          refine AnsR.ifS (fun c H' => But p H6 H' ∧ PotOk H' p (B + 2 + 4 * (i : Int)) ∧ (c = true → fs ≠ [])) ?_ ?_
          · refine AnsR.and (fun c H' => H' = H6) (fun Q hq => ⟨_, rfl, _, rfl, hq _ _ rfl⟩) (fun H' e => ?_) (fun H' e => ⟨e ▸ But.refl _ _, e ▸ I6.pot.le (by omega), nofun⟩)
            subst e
            refine AnsR.and (fun c H2 => (c = true → fs ≠ []) ∧ Same H' H2) (fun Q hq => ?_) (fun H2 ⟨hf, s2⟩ => ?_) (fun H2 ⟨hf, s2⟩ => ⟨But.of s2, (I6.pot.same s2).le (by omega), nofun⟩)
            · refine ⟨_, rfl, Nat.zero_le _, fun q H7 s7 nq hq7 => ⟨.list (fs.map PyData.int), .list (([] : List Int).map PyData.int), .lst (SqL.of (s7 _ _ hF6)) (dpa_ints _), .lst (SqL.of hq7) .nil, shaped_ints _, shaped_ints _, _, rfl, ?_⟩⟩
              rw [eqv_ints]
              refine hq _ _ ⟨fun e => ?_, s7⟩
              by_cases c : fs = []
              · rw [decide_eq_true c] at e
                cases e
              · exact c
            · refine AnsR.or (fun c H3 => Same H2 H3) (fun Q hq => ?_) (fun H3 s3 => ?_) (fun H3 s3 => ⟨But.of (s2.trans s3), (I6.pot.same (s2.trans s3)).le (by omega), fun _ => hf rfl⟩)
              · refine ⟨_, rfl, Nat.zero_le _, fun q H7 s7 nq hq7 => ⟨.list (hs.map PyData.int), .list (([] : List Int).map PyData.int), .lst (SqL.of (s7 _ _ (s2 _ _ hD6))) (dpa_ints _), .lst (SqL.of hq7) .nil, shaped_ints _, shaped_ints _, _, rfl, ?_⟩⟩
                exact hq _ _ s7
              · refine fun Q hq => ⟨_, rfl, p, 3, _, rfl, by decide, by decide, I6.pot.same (s2.trans s3), by omega, fun H4 w4 b4 hp4 l4 u4 => ⟨_, _, rfl, rfl, _, rfl, hq _ _ ⟨(But.of (s2.trans s3)).trans b4, hp4.le (by omega), fun _ => hf rfl⟩⟩⟩
          rintro c H7 ⟨b7, hp7, hne⟩
          have I7 := I6.go b7 hp7
          have hL7 := b7 _ _ I6.pL.symm hL6
          have hD7 := b7 _ _ I6.pD.symm hD6
          have hF7 := b7 _ _ npF.symm hF6
          have hxy7 := paired_imp (fun _ _ r => StA.keep (I6.pot.keep b7) r) hxy
          cases c with
          | true =>
            have fpos := List.length_pos_iff.mpr (hne rfl)
            refine iteT ?_
            refine ⟨_, rfl, .inl ⟨rfl, _, SqL.of hL7⟩, _, rfl, _, rfl, _, rfl, F, _, rfl, .inl (SqL.of hF7), p, (fs.map V.int).length, _, rfl, ?_, ?_, hp7, by omega, fun H8 w8 b8 hp8 l8 u8 => ?_⟩
            · rw [List.length_map]; omega
            · rw [List.length_map]; omega
            rw [List.length_map] at u8
            obtain ⟨y, hy⟩ : ∃ y, fs[w8.toNat]? = some y := ⟨fs[w8.toNat]'(by omega), List.getElem?_eq_getElem _⟩
            refine ⟨F, _, w8, .int y, rfl, rfl, SqL.of (b8 _ _ npF.symm hF7), HX.at_of (j := w8.toNat) (by rw [List.getElem?_map, hy]; rfl) (by omega), ?_⟩
            refine ⟨_, rfl, p, 3, _, rfl, by decide, by decide, hp8, by omega, fun H9 w9 b9 hp9 l9 u9 => ⟨_, _, rfl, rfl, by show 3 ≤ sizeLine; decide, fun q H10 s10 nq hq => ?_⟩⟩
            have b7t := (b8.trans b9).trans (But.of s10)
            have I10 := I7.go b7t (hp9.same s10)
            have hL10 := b7t _ _ I7.pL.symm hL7
            have hD10 := b7t _ _ I7.pD.symm hD7
            have yr := ha.2 y (hfs y (List.mem_of_getElem? hy))
            refine ⟨L, _, _, rfl, rfl, hL10, ?_, ?_⟩
            · exact Nat.lt_of_le_of_lt (by omega : _ ≤ 100) (by decide)
            have I11 := I10.step hL10 (paired_imp (fun _ _ r => StA.keep (I7.pot.keep b7t) r) hxy7) hxl ⟨q, rfl, hq, y, yr.1, yr.2, .inr ⟨_, rfl⟩⟩
            have k11 : Keep H10 (upd H10 L (.lst (xs ++ [.ref q]))) := (Keep.refl H10).upd fun u e => by
              rw [hL10] at e
              cases e
              rfl
            have hq11 := FzT.keep k11 hq
            have hL11 : upd H10 L (.lst (xs ++ [.ref q])) L = some (.lst (xs ++ [.ref q])) := upd_same
            have hD11 : upd H10 L (.lst (xs ++ [.ref q])) D = some (.lst (hs.map V.int)) := by
              rw [upd_ne I10.LD.symm]
              exact hD10
            generalize upd H10 L (.lst (xs ++ [.ref q])) = H11 at I11 hq11 hL11 hD11
            refine ⟨_, rfl, .inl ⟨rfl, _, SqL.of hD11⟩, _, rfl, 1, rfl, L, _, _, .ref q, rfl, rfl, SqL.of hL11, at_last (n := xs.length) (by simp) (by simp), q, _, 1, .int y, rfl, rfl, FzT.sq hq11, rfl, D, _, _, rfl, rfl, hD11, ?_, ?_⟩
            · rw [List.length_map]
              exact Nat.lt_of_le_of_lt (by omega : _ ≤ 100) (by decide)
            have em : (hs ++ [y]).map V.int = hs.map V.int ++ [.int y] := by rw [List.map_append]; rfl
            rw [← em]
            refine ⟨_, _, _, _, rfl, PlIn.hold (PlIn.le I11 (by omega) (Nat.le_refl _)) (fun h hh => ?_) ?_⟩
            · rcases List.mem_append.mp hh with hh | hh
              · exact hsub h hh
              · obtain rfl := List.mem_singleton.mp hh
                exact hfs h (List.mem_of_getElem? hy)
            · rw [List.length_append, List.length_singleton]
              omega
          | false =>
            refine iteF ?_
            refine ⟨_, rfl, Nat.zero_le _, fun q H9 s9 nq hq9 => ⟨.list (hs.map PyData.int), .list (([] : List Int).map PyData.int), .lst (SqL.of (s9 _ _ hD7)) (dpa_ints _), .lst (SqL.of hq9) .nil, shaped_ints _, shaped_ints _, _, rfl, ?_⟩⟩
            rw [eqv_ints]
            have I9' := I7.same s9
            have hL9' := s9 _ _ hL7
            have hD9' := s9 _ _ hD7
            by_cases c : hs = []
            · rw [decide_eq_true c]
              exact iteF ⟨_, _, _, _, rfl, I9'.le (by omega) (by omega)⟩
            · rw [decide_eq_false c]
              have hpos := List.length_pos_iff.mpr c
              have Iq := I9'
              have hLq := hL9'
              have hDq := hD9'
              refine iteT ⟨_, rfl, .inl ⟨rfl, _, SqL.of hLq⟩, _, rfl, .inl ⟨rfl, _, SqL.of hDq⟩, _, rfl, _, rfl, D, _, rfl, .inl (SqL.of hDq), p, (hs.map V.int).length, _, rfl, ?_, ?_, Iq.pot, by omega, fun H8 w8 b8 hp8 l8 u8 => ?_⟩
              · rw [List.length_map]; omega
              · rw [List.length_map]; omega
              rw [List.length_map] at u8
              obtain ⟨y, hy⟩ : ∃ y, hs[w8.toNat]? = some y := ⟨hs[w8.toNat]'(by omega), List.getElem?_eq_getElem _⟩
              have I8 := Iq.go b8 hp8
              have hL8 := b8 _ _ Iq.pL.symm hLq
              have hD8 := b8 _ _ Iq.pD.symm hDq
              refine ⟨D, _, w8, w8.toNat, .int y, rfl, rfl, hD8, by omega, by omega, ?_, by rw [List.getElem?_map, hy]; rfl, ?_⟩
              · rw [List.length_map]
                exact seqIndex_of l8 (by omega)
              rw [erase_map]
              have yr := ha.2 y (hsub y (List.mem_of_getElem? hy))
              have I9 := I8.hold (hs := hs.eraseIdx w8.toNat) (fun h hh => hsub h (List.mem_of_mem_eraseIdx hh)) (Nat.le_trans (List.length_eraseIdx_le _ _) hsl)
              have hL9 : upd H8 D (.lst ((hs.eraseIdx w8.toNat).map V.int)) L = some (.lst xs) := by
                rw [upd_ne I8.LD]
                exact hL8
              have hD9 : upd H8 D (.lst ((hs.eraseIdx w8.toNat).map V.int)) D = some (.lst ((hs.eraseIdx w8.toNat).map V.int)) := upd_same
              generalize upd H8 D (.lst ((hs.eraseIdx w8.toNat).map V.int)) = H9 at I9 hL9 hD9
              refine ⟨by show 2 ≤ sizeLine; decide, fun q H10 s10 nq hq => ?_⟩
              obtain ⟨xs', ys', hL9', hxy9, hxl9⟩ := I9.lst
              obtain rfl : xs' = xs := by
                rw [hL9] at hL9'
                injection hL9' with z
                injection z with z
                exact z.symm
              have hL10 := s10 _ _ hL9
              refine ⟨L, _, _, rfl, rfl, hL10, ?_, ?_⟩
              · exact Nat.lt_of_le_of_lt (by omega : _ ≤ 100) (by decide)
              have I11 := (I9.same s10).step hL10 (paired_imp (fun _ _ r => StA.keep (Keep.of s10) r) hxy9) hxl9 ⟨q, rfl, hq, y, yr.1, yr.2, .inl rfl⟩
              exact ⟨_, _, _, _, rfl, PlIn.le I11 (by omega) (Nat.le_refl _)⟩
    · rintro σ H5 ⟨v6, v7, v8, v9, rfl, I5⟩
      obtain ⟨hs5, hD5, hsub5, hsl5⟩ := I5.held
      refine ⟨fun m σ' H' => ∃ v6 v7 v8 v9, σ' = [some (.ref p), some (.ref a), some (.int most), some (.bl ord), some (.ref L), some (.ref D), v6, v7, v8, v9] ∧ m ≤ 16 ∧ PlIn p ns H H' L D (B + 100 - (m : Int)) (40 - m) ∧ ∃ hs : List Int, H' D = some (.lst (hs.map V.int)) ∧ hs.length = m, ⟨hs5.length, _, _, _, _, rfl, by omega, I5.le (by omega) (by omega), hs5, hD5, rfl⟩, ?_⟩
      rintro m σ H6 ⟨v6, v7, v8, v9, rfl, m6, I6, hs, hD6, hm⟩
      obtain ⟨hs', hD6', hsub, hsl⟩ := I6.held
      obtain rfl : hs' = hs := by
        rw [hD6] at hD6'
        injection hD6' with z
        injection z with z
        have inj : ∀ {a b : List Int}, a.map V.int = b.map V.int → a = b := by
          intro a
          induction a with
          | nil => intro b h; cases b with
            | nil => rfl
            | cons _ _ => cases h
          | cons x a ih => intro b h; cases b with
            | nil => cases h
            | cons y b => injection h with h1 h2; injection h1 with h1; rw [h1, ih h2]
        exact (inj z).symm
      obtain ⟨xs, ys, hL6, hxy6, hxl6⟩ := I6.lst
      refine ⟨_, rfl, Nat.zero_le _, fun q H9 s9 nq hq9 => ⟨.list (hs'.map PyData.int), .list (([] : List Int).map PyData.int), .lst (SqL.of (s9 _ _ hD6)) (dpa_ints _), .lst (SqL.of hq9) .nil, shaped_ints _, shaped_ints _, _, rfl, ?_⟩⟩
      rw [eqv_ints]
      have Iq := I6.same s9
      have hLq := s9 _ _ hL6
      have hDq := s9 _ _ hD6
      by_cases c : hs' = []
      · rw [decide_eq_true c]
        refine iteF ⟨_, rfl, L, _, rfl, SqL.of hLq, fun d H10 s10 nd hd => ?_⟩
        have I10 := Iq.same s10
        exact kq H10 d ys I10.but (I10.pot.le (by omega)) ⟨d, _, rfl, hd, paired_imp (fun _ _ r => StA.keep (Keep.of (s9.trans s10)) r) hxy6, by omega⟩
      · rw [decide_eq_false c]
        have hpos := List.length_pos_iff.mpr c
        refine iteT ⟨fun σ' H' => ∃ v6 v7 v8 v9, σ' = [some (.ref p), some (.ref a), some (.int most), some (.bl ord), some (.ref L), some (.ref D), v6, v7, v8, v9] ∧ m - 1 ≤ 16 ∧ PlIn p ns H H' L D (B + 100 - ((m - 1 : Nat) : Int)) (40 - (m - 1)) ∧ ∃ hs : List Int, H' D = some (.lst (hs.map V.int)) ∧ hs.length = m - 1, fun σ' H' h => ⟨m - 1, by omega, h⟩, ?_⟩
        refine ⟨_, rfl, .inl ⟨rfl, _, SqL.of hLq⟩, _, rfl, .inl ⟨rfl, _, SqL.of hDq⟩, _, rfl, _, rfl, D, _, rfl, .inl (SqL.of hDq), p, (hs'.map V.int).length, _, rfl, ?_, ?_, Iq.pot, by omega, fun H8 w8 b8 hp8 l8 u8 => ?_⟩
        · rw [List.length_map]; omega
        · rw [List.length_map]; omega
        rw [List.length_map] at u8
        obtain ⟨y, hy⟩ : ∃ y, hs'[w8.toNat]? = some y := ⟨hs'[w8.toNat]'(by omega), List.getElem?_eq_getElem _⟩
        have I8 := Iq.go b8 hp8
        have hL8 := b8 _ _ Iq.pL.symm hLq
        have hD8 := b8 _ _ Iq.pD.symm hDq
        refine ⟨D, _, w8, w8.toNat, .int y, rfl, rfl, hD8, by omega, by omega, ?_, by rw [List.getElem?_map, hy]; rfl, ?_⟩
        · rw [List.length_map]
          exact seqIndex_of l8 (by omega)
        rw [erase_map]
        have yr := ha.2 y (hsub y (List.mem_of_getElem? hy))
        have I9 := I8.hold (hs := hs'.eraseIdx w8.toNat) (fun h hh => hsub h (List.mem_of_mem_eraseIdx hh)) (Nat.le_trans (List.length_eraseIdx_le _ _) hsl)
        have hL9 : upd H8 D (.lst ((hs'.eraseIdx w8.toNat).map V.int)) L = some (.lst xs) := by
          rw [upd_ne I8.LD]
          exact hL8
        have hD9 : upd H8 D (.lst ((hs'.eraseIdx w8.toNat).map V.int)) D = some (.lst ((hs'.eraseIdx w8.toNat).map V.int)) := upd_same
        generalize upd H8 D (.lst ((hs'.eraseIdx w8.toNat).map V.int)) = H9 at I9 hL9 hD9
        refine ⟨by show 2 ≤ sizeLine; decide, fun q H10 s10 nq hq => ?_⟩
        obtain ⟨xs', ys', hL9', hxy9, hxl9⟩ := I9.lst
        obtain rfl : xs' = xs := by
          rw [hL9] at hL9'
          injection hL9' with z
          injection z with z
          exact z.symm
        have hL10 := s10 _ _ hL9
        refine ⟨L, _, _, rfl, rfl, hL10, ?_, ?_⟩
        · exact Nat.lt_of_le_of_lt (by omega : _ ≤ 100) (by decide)
        have I11 := (I9.same s10).step hL10 (paired_imp (fun _ _ r => StA.keep (Keep.of s10) r) hxy9) hxl9 ⟨q, rfl, hq, y, yr.1, yr.2, .inl rfl⟩
        refine ⟨_, _, _, _, rfl, by omega, PlIn.le I11 (by omega) (by omega), hs'.eraseIdx w8.toNat, ?_, ?_⟩
        · rw [upd_ne (Iq.LD).symm]
          exact s10 _ _ hD9
        · rw [List.length_eraseIdx_of_lt (by omega)]
          omega
end
end K40

namespace K40
open PySem PySem.Spec PyProof.Rows L2 RZ HX TR RP EQT
/-! hand over hand -/
def vD : V → PyData
  | .int i => .int i
  | .bl b => .bool b
  | .str s => .str s
  | _ => .none
def stD (xs : List V) : PyData := .tuple (xs.map vD)
theorem stp_shape {xs : List V} (h : StpOk xs) {K : PySem.W.Frag} {H : Hp} : DpAll K H xs (xs.map vD) ∧ PyData.canLayAll0 (xs.map vD) = true ∧ PyData.depthAll (xs.map vD) = 0 := by
  obtain ⟨n, h0, h1, h⟩ := h
  rcases h with rfl | ⟨b, rfl⟩
  · refine ⟨.cons (.str _) (.cons (.int _) .nil), ?_, ?_⟩
    · simp only [List.map_cons, List.map_nil, vD, PyData.canLayAll0, PyData.canLay0, Bool.and_true]
      decide +kernel
    · simp only [List.map_cons, List.map_nil, vD, PyData.depthAll, PyData.depth]
      decide
  · refine ⟨.cons (.str _) (.cons (.int _) (.cons (.bl _) .nil)), ?_, ?_⟩
    · simp only [List.map_cons, List.map_nil, vD, PyData.canLayAll0, PyData.canLay0, Bool.and_true]
      decide +kernel
    · simp only [List.map_cons, List.map_nil, vD, PyData.depthAll, PyData.depth]
      decide
theorem stps_dp {K : PySem.W.Frag} {H : Hp} : ∀ {xs : List V} {ys : List (List V)}, Paired (StA H) xs ys → DpAll K H xs (ys.map stD) ∧ PyData.canLayAll0 (ys.map stD) = true ∧ PyData.depthAll (ys.map stD) ≤ 1
  | _, _, .nil => ⟨.nil, rfl, Nat.zero_le _⟩
  | _, y :: ys, .cons r rs => by
    obtain ⟨q, rfl, h1, h2⟩ := r
    obtain ⟨a1, a2, a3⟩ := stp_shape (K := K) (H := H) h2
    obtain ⟨b1, b2, b3⟩ := stps_dp (K := K) rs
    refine ⟨.cons (.tup h1.sq a1) b1, ?_, ?_⟩
    · show (PyData.canLay0 (stD y) && PyData.canLayAll0 (ys.map stD)) = true
      rw [b2, Bool.and_true]
      simp only [stD, PyData.canLay0, a2]
    · simp only [List.map_cons, PyData.depthAll, stD, PyData.depth, a3]
      omega
theorem shaped_stps {ys : List (List V)} (h1 : PyData.canLayAll0 (ys.map stD) = true) (h2 : PyData.depthAll (ys.map stD) ≤ 1) : SeqAt.shaped (.list (ys.map stD)) = true := by
  unfold SeqAt.shaped
  simp only [PyData.canLay0, h1, PyData.depth, Bool.true_and]
  exact decide_eq_true (by omega)
theorem eqv_nil {ys : List (List V)} : PyData.eqv (.list (ys.map stD)) (.list []) = decide (ys = []) := by
  cases ys with
  | nil => simp [PyData.eqv, PyData.eqvAll]
  | cons y ys => simp [PyData.eqv, PyData.eqvAll]
/-- the lists of steps -/
structure RdIn (p : Addr) (H0 H : Hp) (L : Addr) (As : List Addr) (B : Int) (n : Nat) : Prop where
  but : But p H0 H
  pot : PotOk H p B
  lst : H L = some (.lst (As.map V.ref))
  nd : As.Nodup
  each : ∀ A ∈ As, (∃ xs ys, H A = some (.lst xs) ∧ Paired (StA H) xs ys ∧ xs.length ≤ n) ∧ H0 A = none ∧ p ≠ A ∧ L ≠ A
  nL : H0 L = none
  pL : p ≠ L
theorem RdIn.go {p : Addr} {H0 H H' : Hp} {L : Addr} {As : List Addr} {B B' : Int} {n : Nat} (I : RdIn p H0 H L As B n) (b : But p H H') (hp : PotOk H' p B') : RdIn p H0 H' L As B' n := by
  refine ⟨I.but.trans b, hp, b _ _ I.pL.symm I.lst, I.nd, fun A hA => ?_, I.nL, I.pL⟩
  obtain ⟨⟨xs, ys, h1, h2, h3⟩, h4, h5, h6⟩ := I.each A hA
  exact ⟨⟨xs, ys, b _ _ h5.symm h1, paired_imp (fun _ _ r => StA.keep (I.pot.keep b) r) h2, h3⟩, h4, h5, h6⟩
theorem RdIn.same {p : Addr} {H0 H H' : Hp} {L : Addr} {As : List Addr} {B : Int} {n : Nat} (I : RdIn p H0 H L As B n) (s : Same H H') : RdIn p H0 H' L As B n := I.go (But.of s) (I.pot.same s)
theorem RdIn.le {p : Addr} {H0 H : Hp} {L : Addr} {As : List Addr} {B B' : Int} {n n' : Nat} (I : RdIn p H0 H L As B n) (h : B ≤ B') (k : n ≤ n') : RdIn p H0 H L As B' n' := by
  refine ⟨I.but, I.pot.le h, I.lst, I.nd, fun A hA => ?_, I.nL, I.pL⟩
  obtain ⟨⟨xs, ys, h1, h2, h3⟩, h4⟩ := I.each A hA
  exact ⟨⟨xs, ys, h1, h2, by omega⟩, h4⟩
/-- one of the lists anew -/
theorem RdIn.put {p : Addr} {H0 H : Hp} {L : Addr} {As : List Addr} {B : Int} {n n' : Nat} (I : RdIn p H0 H L As B n) (hn : n ≤ n') {A : Addr} (hA : A ∈ As) {vs xs : List V} {ys : List (List V)} (h0 : H A = some (.lst vs)) (hx : Paired (StA H) xs ys) (hl : xs.length ≤ n') : RdIn p H0 (upd H A (.lst xs)) L As B n' := by
  obtain ⟨_, hA0, hAp, hAL⟩ := I.each A hA
  have k : Keep H (upd H A (.lst xs)) := (Keep.refl H).upd fun u e => by
    rw [h0] at e
    cases e
    rfl
  refine ⟨fun b o nb e => ?_, I.pot.put hAp, ?_, I.nd, fun C hC => ?_, I.nL, I.pL⟩
  · rw [upd_ne (ne_of_none e hA0)]
    exact I.but b o nb e
  · rw [upd_ne hAL]
    exact I.lst
  · obtain ⟨⟨vs', ys', h1, h2, h3⟩, h4⟩ := I.each C hC
    refine ⟨?_, h4⟩
    by_cases c : C = A
    · subst c
      exact ⟨xs, ys, upd_same, paired_imp (fun _ _ r => StA.keep k r) hx, hl⟩
    · exact ⟨vs', ys', by rw [upd_ne c]; exact h1, paired_imp (fun _ _ r => StA.keep k r) h2, by omega⟩
/-- one list more -/
theorem RdIn.more {p : Addr} {H0 H : Hp} {L : Addr} {As : List Addr} {B : Int} {n : Nat} (I : RdIn p H0 H L As B n) {q : Addr} (n0 : H0 q = none) (hq : H q = some (.lst [])) (hnot : q ∉ As) (nqL : L ≠ q) : RdIn p H0 (upd H L (.lst (As.map V.ref ++ [.ref q]))) L (As ++ [q]) B n := by
  have npq : p ≠ q := fun e => by
    obtain ⟨x, y, c, h1, _⟩ := I.pot
    rw [e, hq] at h1
    cases h1
  have k : Keep H (upd H L (.lst (As.map V.ref ++ [.ref q]))) := (Keep.refl H).upd fun u e => by
    rw [I.lst] at e
    cases e
    rfl
  refine ⟨fun b o nb e => ?_, I.pot.put I.pL, ?_, ?_, fun C hC => ?_, I.nL, I.pL⟩
  · rw [upd_ne (ne_of_none e I.nL)]
    exact I.but b o nb e
  · rw [upd_same, List.map_append]
    rfl
  · exact List.nodup_append.mpr ⟨I.nd, List.nodup_cons.mpr ⟨nofun, .nil⟩, fun x hx y hy z => hnot (by obtain rfl := List.mem_singleton.mp hy; exact z ▸ hx)⟩
  · rcases List.mem_append.mp hC with hC | hC
    · obtain ⟨⟨xs, ys, h1, h2, h3⟩, h4, h5, h6⟩ := I.each C hC
      exact ⟨⟨xs, ys, by rw [upd_ne h6.symm]; exact h1, paired_imp (fun _ _ r => StA.keep k r) h2, h3⟩, h4, h5, h6⟩
    · obtain rfl := List.mem_singleton.mp hC
      exact ⟨⟨[], [], by rw [upd_ne nqL.symm]; exact hq, .nil, Nat.zero_le _⟩, n0, npq, nqL⟩
section
variable {P : Program} {w : World} {K : PySem.W.Frag} {mg : Str → Option Value} {base : Heap}
def GoodPs (ps : List (Option (List (Option (List V))))) : Prop := 1 ≤ ps.length ∧ ps.length ≤ 4 ∧ ∀ o ∈ ps, ∃ ss, o = some ss ∧ GoodSs ss
theorem PlsA {H : Hp} {p d : Addr} {B : Int} {vs : List V} {ds : List (List (List V))} (hp : PotOk H p B) (hd : FzT H d vs) (h : Paired (PlA H) vs ds) (l1 : 1 ≤ vs.length) (l4 : vs.length ≤ 4) : ∃ ps, Pls K p H (.ref d) (some ps) ∧ GoodPs ps := by
  have go : ∀ {vs : List V} {ds : List (List (List V))}, Paired (PlA H) vs ds → ∃ ps : List (Option (List (Option (List V)))), Paired (Pln K p H) vs ps ∧ ∀ o ∈ ps, ∃ ss, o = some ss ∧ GoodSs ss := by
    intro vs ds h
    induction h with
    | nil => exact ⟨[], .nil, nofun⟩
    | cons r _ ih =>
      obtain ⟨ps, h1, h2⟩ := ih
      obtain ⟨q, xs, rfl, g1, g2, g3⟩ := r
      obtain ⟨ss, z1, z2⟩ := PlnA (K := K) hp g1 g2 g3
      refine ⟨some ss :: ps, .cons z1 h1, fun o ho => ?_⟩
      rcases List.mem_cons.mp ho with rfl | ho
      · exact ⟨ss, rfl, z2⟩
      · exact h2 o ho
  obtain ⟨ps, h1, h2⟩ := go h
  have e := h1.length
  exact ⟨ps, Lv.tup hd.sq h1 (FzT.ne hp hd), by omega, by omega, h2⟩
def sp_law_round (K : PySem.W.Frag) : Sp := fun vs H Q _ => ∃ (p a : Addr) (ns : List Int) (B : Int), vs = [.ref p, .ref a] ∧ PotOk H p B ∧ B < 2 ^ 37 ∧ Pgs H a ns ∧ p ≠ a ∧ 2 ≤ ns.length ∧ ns.length ≤ 9 ∧
  ∀ (H' : Hp) (d : Addr) (ps : List (Option (List (Option (List V))))), But p H H' → PotOk H' p (B + 200) → Pls K p H' (.ref d) (some ps) → GoodPs ps → Q (.ref d) H'
theorem ok_law_round (T : TX K mg) : FnOk P w K mg base CX0 2 (He.ga K "_law_round") T.fd_law_round ["pot", "pool"] (sp_law_round K) := by
  have G_law_take : FnOk P w K mg base CX0 1 (He.ga K "_law_take") T.fd_law_take ["pot", "many"] sp_law_take := ok_law_take T
  have b_law_take := b_law_take T
  refine T.F_law_round.ok sc_law_round (fun vs H Q E h => ?_) (fun cdv A0 outer st H vs Q E hr h => ?_)
  · obtain ⟨p, a, ns, B, rfl, _⟩ := h
    rfl
  · obtain ⟨p, a, ns, B, rfl, hp, hB, ha, npa, n2, n9, kq⟩ := h
    refine ⟨_, PSs.nox (pss_cons (ps_set (i := 2) sc_law_round.nd rfl (Or.inl rfl) (pe_op op_add pe_int (pe_call G_law_take (hr.mono (by first | decide | omega)) rfl T.g_law_take T.F_law_take.kp b_law_take .nil pass0 (pa_cons (pv 0) (pa_cons pe_int pa_nil)))))
 (pss_cons (ps_set (i := 3) sc_law_round.nd rfl (Or.inl rfl) (pe_op op_sub (pe_callB call_len_seq rfl T.n_len PySem.boot_len (pa_cons (pv 1) pa_nil)) (pe_call G_law_take (hr.mono (by first | decide | omega)) rfl T.g_law_take T.F_law_take.kp b_law_take .nil pass0 (pa_cons (pv 0) (pa_cons pe_int pa_nil)))))
 (pss_cons (ps_setLc (i := 4) (own := [("hand", 9)]) (g := gName 9) (tt := tYes) rfl sc_law_round.nd rfl rfl (sw_true rfl rfl rfl (by decide +kernel)) (pi_range1 rfl T.n_range (pa_cons (pv 2) pa_nil)) (blkOk_by (own := [("hand", 9)]) (N := ["pot", "pool", "many", "pulls", "plans", "at", "plan", "one", "other", "hand"]) (sc := defScope s_law_round) (by decide +kernel)) (fun _ _ _ _ _ => (pg_name (i := 9) sc_law_round.nd rfl (Or.inl rfl))) (fun _ _ _ _ _ => pts_nil) (fun _ _ _ _ _ => (RU.pe_lstS pa_nil)))
 (pss_cons (ps_for PassesOwn.never rfl (pi_range1 rfl T.n_range (pa_cons (pv 3) pa_nil)) (pg_name (i := 5) sc_law_round.nd rfl (Or.inl rfl))
 (pss_cons (ps_set (i := 6) sc_law_round.nd rfl (Or.inl rfl) (pe_ix ix_list (pv 4) (pe_op op_fdivW (pe_op op_mulW (pv 5) (pv 2)) (pv 3)) (fun _ _ => rfl)))
 (pss_cons (ps_par (i := 7) (j := 8) rfl sc_law_round.nd rfl rfl (by decide) rfl rfl (pa_cons (pe_ix ix_list (pv 1) (pv 5) (fun _ _ => rfl)) (pa_cons (pe_ix ix_list (pv 1) (pe_op op_mod (pe_op op_add (pv 5) pe_int) (pe_callB call_len_seq rfl T.n_len PySem.boot_len (pa_cons (pv 1) pa_nil))) (fun _ _ => rfl)) pa_nil)) rfl)
 (Evl.pss_cut (ps_if (pt_cmpR (op_eqD hr.units) (pv 6) (RU.pe_lstS pa_nil) (nomark _))
 (pss_one (ps_expr (pe_bm PySem.F.plainAttrs_list PySem.F.slot_list_append PySem.F.type_list_append mt_append (pv 6) (pa_cons (RU.pe_tupS (pa_cons pe_str (pa_cons (pv 7) (pa_cons (pe_cmpR op_gt (pe_call G_law_take (hr.mono (by first | decide | omega)) rfl T.g_law_take T.F_law_take.kp b_law_take .nil pass0 (pa_cons (pv 0) (pa_cons pe_int pa_nil))) pe_int (nomark _)) pa_nil)))) pa_nil))))
 (pss_one (ps_expr (pe_bm0 PySem.F.plainAttrs_list PySem.F.slot_list_pop PySem.F.type_list_pop mt_pop (pv 6)))))
 (pss_one (ps_expr (pe_bm PySem.F.plainAttrs_list PySem.F.slot_list_extend PySem.F.type_list_extend mt_extend (pv 6) (pa_cons (RU.pe_lstS (pa_cons (RU.pe_tupS (pa_cons pe_str (pa_cons (pv 8) (pa_cons (pe_cmpR op_gt (pe_call G_law_take (hr.mono (by first | decide | omega)) rfl T.g_law_take T.F_law_take.kp b_law_take .nil pass0 (pa_cons (pv 0) (pa_cons pe_int pa_nil))) pe_int (nomark _)) pa_nil)))) (pa_cons (RU.pe_tupS (pa_cons pe_str (pa_cons (pv 7) pa_nil))) (pa_cons (RU.pe_tupS (pa_cons pe_str (pa_cons (pv 8) pa_nil))) pa_nil)))) pa_nil))))))))
 (pss_one (ps_ret (pe_callTy RU.call_tupS rfl T.n_tuple (by decide +kernel) (pa_cons (pe_lc (own := [("plan", 6)]) (g := gName 6) (tt := tYes) rfl sc_law_round.nd (pi_list (pv 4)) (blkOk_by (own := [("plan", 6)]) (N := ["pot", "pool", "many", "pulls", "plans", "at", "plan", "one", "other", "hand"]) (sc := defScope s_law_round) (by decide +kernel)) (fun _ _ _ _ _ => (pg_name (i := 6) sc_law_round.nd rfl (Or.inl rfl))) (fun _ _ _ _ _ => pts_nil) (fun _ _ _ _ _ => (pe_callTy (EQT.call_tupK K) rfl T.n_tuple (by decide +kernel) (pa_cons (pv 6) pa_nil)))) pa_nil)))))))), ?_⟩
    refine ⟨_, rfl, p, 3, B, rfl, by decide, by decide, hp, by omega, fun H1 w1 b1 hp1 l1 u1 => ⟨_, _, rfl, rfl, ?_⟩⟩
    have ha1 := ha.but b1 npa.symm
    refine ⟨_, rfl, a, _, rfl, .inl (SqL.of ha1.1), ?_⟩
    rw [List.length_map]
    refine ⟨_, rfl, p, 2, _, rfl, by decide, by decide, hp1, by omega, fun H2 w2 b2 hp2 l2 u2 => ⟨_, _, rfl, rfl, ?_⟩⟩
    have ha2 := ha1.but b2 npa.symm
    refine ⟨_, rfl, 2 + w1, rfl, by omega, by omega, fun L hL => ?_⟩
    have npL : p ≠ L := hp2.ne hL
    refine lc_it walk_range (fun i H' => ∃ As : List Addr, As.length = i ∧ RdIn p H2 H' L As (B + 2) 0) ⟨[], rfl, But.of (same_new hL), (hp2.same (same_new hL)).le (by omega), upd_same, .nil, nofun, hL, npL⟩ (fun _ _ _ _ => trivial) ?_ ?_
    · rintro i x H8 H9 hi ⟨As, ea, I⟩ ⟨rfl, rfl⟩
      refine ⟨rfl, ?_⟩
      dsimp only [tYes]
      rw [if_pos rfl]
      refine ⟨Nat.zero_le _, fun q H10 s10 nq hq => ⟨_, s10 _ _ I.lst, ?_, As ++ [q], ?_, ?_⟩⟩
      · rw [List.length_map]
        exact Nat.lt_of_le_of_lt (by omega : _ ≤ 100) (by decide)
      · rw [List.length_append, List.length_singleton, ea]
      · refine (I.same s10).more (none_but I.but I.pot nq) hq (fun hm => ?_) (fun e => ?_)
        · obtain ⟨⟨xs, ys, z, _⟩, _⟩ := I.each q hm
          rw [nq] at z
          cases z
        · have z := I.lst
          rw [e, nq] at z
          cases z
    · rintro H3 ⟨As, ea, I3⟩
      obtain ⟨M, eM, M2, M4⟩ : ∃ M : Nat, 2 + w1 = (M : Int) ∧ 2 ≤ M ∧ M ≤ 4 := ⟨(2 + w1).toNat, by omega, by omega, by omega⟩
      obtain ⟨U, eU, U1, U9⟩ : ∃ U : Nat, (ns.length : Int) - w2 = (U : Int) ∧ 1 ≤ U ∧ U ≤ 9 := ⟨((ns.length : Int) - w2).toNat, by omega, by omega, by omega⟩
      rw [eM] at ea
      dsimp only
      rw [eM, eU]
      have nL2 : H2 L = none := hL
      refine ⟨_, rfl, (U : Int), rfl, by omega, by omega, ?_⟩
      refine for_range (n := U) (fun i σ H' => ∃ v5 v6 v7 v8 v9, σ = [some (.ref p), some (.ref a), some (.int (M : Int)), some (.int (U : Int)), some (.ref L), v5, v6, v7, v8, v9] ∧ RdIn p H2 H' L As (B + 3 + 3 * (i : Int)) (4 * i)) ⟨_, _, _, _, _, rfl, I3.le (by omega) (by omega)⟩ ?_ ?_
      · rintro i σ H4 hi ⟨v5, v6, v7, v8, v9, rfl, I⟩
        have ha4 := I.but _ _ npa.symm ha2.1
        have hx : 0 ≤ (0 + (i : Int)) * (M : Int) / (U : Int) ∧ (0 + (i : Int)) * (M : Int) / (U : Int) < M := by
          refine ⟨Int.ediv_nonneg (Int.mul_nonneg (by omega) (by omega)) (by omega), Int.ediv_lt_of_lt_mul (by omega) ?_⟩
          rw [Int.mul_comm]
          exact Int.mul_lt_mul_of_pos_left (by omega) (by omega)
        refine ⟨_, rfl, _, rfl, _, rfl, _, _, rfl, rfl, wide_mul (a := 20) (b := 20) (by omega) (by omega) (by decide) (by decide) (by decide), _, rfl, _, _, rfl, rfl, wide_div (b := 20) (by omega) (by omega) (by decide) (by decide), ?_⟩
        obtain ⟨A, hA⟩ : ∃ A, As[((0 + (i : Int)) * (M : Int) / (U : Int)).toNat]? = some A := ⟨As[((0 + (i : Int)) * (M : Int) / (U : Int)).toNat]'(by omega), List.getElem?_eq_getElem _⟩
        have hAm := List.mem_of_getElem? hA
        refine ⟨L, _, ((0 + (i : Int)) * (M : Int) / (U : Int)), .ref A, rfl, rfl, SqL.of I.lst, HX.at_of (j := ((0 + (i : Int)) * (M : Int) / (U : Int)).toNat) (by rw [List.getElem?_map, hA]; rfl) (by omega), ?_⟩
        obtain ⟨one, h1⟩ : ∃ n, ns[i]? = some n := ⟨ns[i]'(by omega), List.getElem?_eq_getElem _⟩
        have hm : 0 ≤ (0 + (i : Int) + 1) % (ns.length : Int) ∧ (0 + (i : Int) + 1) % (ns.length : Int) < ns.length := ⟨Int.emod_nonneg _ (by omega), Int.emod_lt_of_pos _ (by omega)⟩
        refine ⟨_, rfl, _, rfl, a, _, _, .int one, rfl, rfl, SqL.of ha4, HX.at_of (j := i) (by rw [List.getElem?_map, h1]; rfl) (by omega), _, rfl, _, rfl, _, _, rfl, rfl, _, rfl, a, _, rfl, .inl (SqL.of ha4), ?_⟩
        rw [List.length_map]
        refine ⟨_, _, rfl, rfl, by omega, ?_⟩
        obtain ⟨oth, h2⟩ : ∃ n, ns[((0 + (i : Int) + 1) % (ns.length : Int)).toNat]? = some n := ⟨ns[((0 + (i : Int) + 1) % (ns.length : Int)).toNat]'(by omega), List.getElem?_eq_getElem _⟩
        refine ⟨a, _, ((0 + (i : Int) + 1) % (ns.length : Int)), .int oth, rfl, rfl, SqL.of ha4, HX.at_of (j := ((0 + (i : Int) + 1) % (ns.length : Int)).toNat) (by rw [List.getElem?_map, h2]; rfl) (by omega), ?_⟩
        obtain ⟨⟨xs, ys, hA4, hxy, hxl⟩, nA, npA, nLA⟩ := I.each A hAm
        obtain ⟨dp, lay, dep⟩ := stps_dp (K := (cxOf CX0 P w K mg base ["pot", "pool", "many", "pulls", "plans", "at", "plan", "one", "other", "hand"] "_law_round" (defScope s_law_round) (He.ga K "_law_round") cdv A0 outer st H E).K) hxy
        have r1 := ha2.2 one (List.mem_of_getElem? h1)
        have r2 := ha2.2 oth (List.mem_of_getElem? h2)
        refine ⟨_, _, rfl, fun σ' H' => ∃ v9, σ' = [some (.ref p), some (.ref a), some (.int (M : Int)), some (.int (U : Int)), some (.ref L), some (.int (0 + (i : Int))), some (.ref A), some (.int one), some (.int oth), v9] ∧ RdIn p H2 H' L As (B + 4 + 3 * (i : Int)) (4 * i + 1), ?_, ?_⟩
        · refine ⟨_, rfl, Nat.zero_le _, fun q H5 s5 nq hq5 => ⟨.list (ys.map stD), .list [], .lst (SqL.of (s5 _ _ hA4)) (stps_dp (paired_imp (fun _ _ r => StA.keep (Keep.of s5) r) hxy)).1, .lst (SqL.of hq5) .nil, shaped_stps lay dep, shaped_ints [], _, rfl, ?_⟩⟩
          rw [eqv_nil]
          have I5 := I.same s5
          by_cases c : ys = []
          · rw [decide_eq_true c]
            refine iteT ⟨_, rfl, .inl ⟨rfl, _, SqL.of (s5 _ _ hA4)⟩, _, rfl, _, rfl, p, 3, _, rfl, by decide, by decide, I5.pot, by omega, fun H6 w6 b6 hp6 l6 u6 => ⟨_, _, rfl, rfl, by show 3 ≤ sizeLine; decide, fun q2 H7 s7 nq2 hq2 => ?_⟩⟩
            have b7 := b6.trans (But.of s7)
            have I7 := I5.go b7 (hp6.same s7)
            have hA7 := b7 _ _ npA.symm (s5 _ _ hA4)
            refine ⟨A, _, _, rfl, rfl, hA7, ?_, ?_⟩
            · exact Nat.lt_of_le_of_lt (by omega : _ ≤ 100) (by decide)
            refine ⟨_, rfl, (I7.put (n' := 4 * i + 1) (by omega) hAm hA7 (ys := ys ++ [[.str "take", .int one, .bl (decide (0 < w6))]]) ?_ ?_).le (by omega) (Nat.le_refl _)⟩
            · exact paired_app (paired_imp (fun _ _ r => StA.keep ((Keep.of s5).trans (I5.pot.keep b7)) r) hxy) (paired_one ⟨q2, rfl, hq2, one, r1.1, r1.2, .inr ⟨_, rfl⟩⟩)
            · rw [List.length_append, List.length_singleton]
              omega
          · rw [decide_eq_false c]
            have hy : 0 < xs.length := by
              rw [hxy.length]
              exact List.length_pos_iff.mpr c
            have hl0 : xs[xs.length - 1]? = some (xs[xs.length - 1]'(by omega)) := List.getElem?_eq_getElem _
            refine iteF ⟨_, rfl, .inl ⟨rfl, _, SqL.of (s5 _ _ hA4)⟩, A, xs, _, rfl, rfl, s5 _ _ hA4, hl0, ?_⟩
            refine ⟨_, rfl, (I5.put (n' := 4 * i + 1) (by omega) hAm (s5 _ _ hA4) (ys := ys.take (xs.length - 1)) ?_ ?_).le (by omega) (Nat.le_refl _)⟩
            · rw [List.dropLast_eq_take]
              exact paired_take _ (paired_imp (fun _ _ r => StA.keep (Keep.of s5) r) hxy)
            · rw [List.length_dropLast]
              omega
        · rintro σ H5 ⟨v9, rfl, I5⟩
          obtain ⟨⟨xs5, ys5, hA5, hxy5, hxl5⟩, _, _, _⟩ := I5.each A hAm
          refine ⟨_, rfl, .inl ⟨rfl, _, SqL.of hA5⟩, _, rfl, _, rfl, p, 3, _, rfl, by decide, by decide, I5.pot, by omega, fun H6 w6 b6 hp6 l6 u6 => ⟨_, _, rfl, rfl, by show 3 ≤ sizeLine; decide, fun q1 H7 s7 nq1 hq1 => ⟨_, rfl, by show 2 ≤ sizeLine; decide, fun q2 H8 s8 nq2 hq2 => ⟨_, rfl, by show 2 ≤ sizeLine; decide, fun q3 H9 s9 nq3 hq3 => ⟨by show 3 ≤ sizeLine; decide, fun l H10 s10 nl hl => ?_⟩⟩⟩⟩⟩
          have s70 := ((s7.trans s8).trans s9).trans s10
          have b10 := b6.trans (But.of s70)
          have I10 := I5.go b10 (hp6.same s70)
          have hA10 := b10 _ _ npA.symm hA5
          refine ⟨A, l, xs5, _, rfl, rfl, hA10, hl, ?_, ?_⟩
          · exact Nat.le_trans (by show xs5.length + 3 ≤ 100; omega) (by decide)
          refine ⟨_, _, _, _, _, rfl, (I10.put (n' := 4 * i + 4) (by omega) hAm hA10 (ys := ys5 ++ [[.str "take", .int oth, .bl (decide (0 < w6))], [.str "let", .int one], [.str "let", .int oth]]) ?_ ?_).le (by omega) (by omega)⟩
          · refine paired_app (paired_imp (fun _ _ r => StA.keep (I5.pot.keep b10) r) hxy5) (.cons ⟨q1, rfl, FzT.same ((s8.trans s9).trans s10) hq1, oth, r2.1, r2.2, .inr ⟨_, rfl⟩⟩ (.cons ⟨q2, rfl, FzT.same (s9.trans s10) hq2, one, r1.1, r1.2, .inl rfl⟩ (.cons ⟨q3, rfl, FzT.same s10 hq3, oth, r2.1, r2.2, .inl rfl⟩ .nil)))
          · rw [List.length_append]
            show xs5.length + 3 ≤ 4 * i + 4
            omega
      · rintro σ H4 ⟨v5, v6, v7, v8, v9, rfl, I⟩
        refine ⟨_, rfl, L, rfl, ⟨_, SqL.of I.lst⟩, fun D hD => ?_⟩
        refine lc_it walk_list (fun i H' => Same H4 H' ∧ ∃ (vs : List V) (ds : List (List (List V))), H' D = some (.lst vs) ∧ vs.length = i ∧ Paired (PlA H') vs ds) ⟨same_new hD, [], [], upd_same, rfl, .nil⟩ (fun i H' _ z => SqL.of (z.1 _ _ I.lst)) ?_ ?_
        · rintro i x H8 H9 hi ⟨s8, vs, ds, hD8, ei, hpd⟩ ⟨rfl, hx⟩
          obtain ⟨A, hA, rfl⟩ : ∃ A, As[i]? = some A ∧ x = .ref A := by
            rw [List.getElem?_map] at hx
            cases e : As[i]? with
            | none => rw [e] at hx; cases hx
            | some m => rw [e] at hx; cases hx; exact ⟨m, rfl, rfl⟩
          have I8 := I.same s8
          obtain ⟨⟨xs, ys, hA8, hxy, hxl⟩, _, _, _⟩ := I8.each A (List.mem_of_getElem? hA)
          refine ⟨rfl, ?_⟩
          dsimp only [tYes]
          rw [if_pos rfl]
          refine ⟨_, rfl, A, xs, rfl, SqL.of hA8, fun d H10 s10 nd hd => ?_⟩
          have hD10 := s10 _ _ hD8
          have k11 : Keep H10 (upd H10 D (.lst (vs ++ [.ref d]))) := (Keep.refl H10).upd fun u e => by
            rw [hD10] at e
            cases e
            rfl
          refine ⟨vs, hD10, ?_, same_upd (s8.trans s10) hD, vs ++ [.ref d], ds ++ [ys], upd_same, ?_, ?_⟩
          · exact Nat.lt_of_le_of_lt (by have := (List.getElem?_eq_some_iff.mp hA).1; omega : _ ≤ 100) (by decide)
          · rw [List.length_append, List.length_singleton, ei]
          · exact paired_app (paired_imp (fun _ _ r => PlA.keep ((Keep.of s10).trans k11) r) hpd) (paired_one (PlA.keep k11 ⟨d, xs, rfl, hd, paired_imp (fun _ _ r => StA.keep (Keep.of s10) r) hxy, by omega⟩))
        · rintro H8 ⟨s8, vs, ds, hD8, ei, hpd⟩
          rw [List.length_map] at ei
          refine ⟨D, vs, rfl, SqL.of hD8, fun l H9 s9 nl hl => ?_⟩
          have I9 := I.same (s8.trans s9)
          obtain ⟨ps, z1, z2⟩ := PlsA (K := (cxOf CX0 P w K mg base ["pot", "pool", "many", "pulls", "plans", "at", "plan", "one", "other", "hand"] "_law_round" (defScope s_law_round) (He.ga K "_law_round") cdv A0 outer st H E).K) I9.pot hl (paired_imp (fun _ _ r => PlA.keep (Keep.of s9) r) hpd) (by omega) (by omega)
          exact kq H9 l ps ((b1.trans b2).trans I9.but) (I9.pot.le (by omega)) z1 z2
def sp_law_plans (K : PySem.W.Frag) : Sp := fun vs H Q _ => ∃ (p : Addr) (most : Int) (ord : Bool) (B : Int), vs = [.ref p, .int most, .bl ord] ∧ PotOk H p B ∧ B < 2 ^ 36 ∧ 4 ≤ most ∧ most ≤ 16 ∧
  ∀ (H' : Hp) (d : Addr) (ps : List (Option (List (Option (List V))))), But p H H' → PotOk H' p (B + 1000) → Pls K p H' (.ref d) (some ps) → GoodPs ps → Q (.ref d) H'
theorem ok_law_plans (T : TX K mg) : FnOk P w K mg base CX0 3 (He.ga K "_law_plans") T.fd_law_plans ["pot", "most", "ordered"] (sp_law_plans K) := by
  have G_law_take : FnOk P w K mg base CX0 1 (He.ga K "_law_take") T.fd_law_take ["pot", "many"] sp_law_take := ok_law_take T
  have b_law_take := b_law_take T
  have G_law_pool : FnOk P w K mg base CX0 2 (He.ga K "_law_pool") T.fd_law_pool ["pot"] sp_law_pool := ok_law_pool T
  have b_law_pool := b_law_pool T
  have G_law_round : FnOk P w K mg base CX0 2 (He.ga K "_law_round") T.fd_law_round ["pot", "pool"] (sp_law_round K) := ok_law_round T
  have b_law_round := b_law_round T
  have G_law_plan : FnOk P w K mg base CX0 2 (He.ga K "_law_plan") T.fd_law_plan ["pot", "pool", "most", "ordered"] sp_law_plan := ok_law_plan T
  have b_law_plan := b_law_plan T
  refine T.F_law_plans.ok sc_law_plans (fun vs H Q E h => ?_) (fun cdv A0 outer st H vs Q E hr h => ?_)
  · obtain ⟨p, most, ord, B, rfl, _⟩ := h
    rfl
  · obtain ⟨p, most, ord, B, rfl, hp, hB, m4, m16, kq⟩ := h
    refine ⟨_, PSs.nox (pss_cons (ps_set (i := 3) sc_law_plans.nd rfl (Or.inr rfl) (pe_call G_law_pool (hr.mono (by first | decide | omega)) rfl T.g_law_pool T.F_law_pool.kp b_law_pool .nil pass0 (pa_cons (pv 0) pa_nil)))
 (pss_cons (ps_if (pt_cmpR op_eq (pe_call G_law_take (hr.mono (by first | decide | omega)) rfl T.g_law_take T.F_law_take.kp b_law_take .nil pass0 (pa_cons (pv 0) (pa_cons pe_int pa_nil))) pe_int (nomark _))
 (pss_one (ps_ret (pe_call G_law_round (hr.mono (by first | decide | omega)) rfl T.g_law_round T.F_law_round.kp b_law_round .nil pass0 (pa_cons (pv 0) (pa_cons (pv 3) pa_nil)))))
 pss_nil)
 (pss_one (ps_ret (pe_callTy RU.call_tupS rfl T.n_tuple (by decide +kernel) (pa_cons (pe_lc (own := [("k", 4)]) (g := gName 4) (tt := tYes) rfl sc_law_plans.nd (pi_range1 rfl T.n_range (pa_cons (pe_op op_add pe_int (pe_call G_law_take (hr.mono (by first | decide | omega)) rfl T.g_law_take T.F_law_take.kp b_law_take .nil pass0 (pa_cons (pv 0) (pa_cons pe_int pa_nil)))) pa_nil)) (blkOk_by (own := [("k", 4)]) (N := ["pot", "most", "ordered", "pool", "k"]) (sc := defScope s_law_plans) (by decide +kernel)) (fun _ _ _ _ _ => (pg_name (i := 4) sc_law_plans.nd rfl (Or.inl rfl))) (fun _ _ _ _ _ => pts_nil) (fun _ _ _ _ _ => (pe_call G_law_plan (hr.mono (by first | decide | omega)) rfl T.g_law_plan T.F_law_plan.kp b_law_plan .nil pass0 (pa_cons (pv 0) (pa_cons (pv 3) (pa_cons (pv 1) (pa_cons (pv 2) pa_nil))))))) pa_nil)))))), ?_⟩
    refine ⟨_, rfl, p, B, rfl, hp, by omega, fun H1 a ns b1 hp1 na npa ha n2 n9 => ?_⟩
    refine ⟨_, rfl, p, 5, _, rfl, by decide, by decide, hp1, by omega, fun H2 w2 b2 hp2 l2 u2 => ⟨rfl, _, rfl, ?_⟩⟩
    have ha2 := ha.but b2 npa.symm
    cases decide (V.int w2 = V.int 0) with
    | true => exact iteT ⟨_, rfl, _, rfl, p, a, ns, _, rfl, hp2, by omega, ha2, npa, n2, n9, fun H3 d ps b3 hp3 z1 z2 => kq H3 d ps ((b1.trans b2).trans b3) (hp3.le (by omega)) z1 z2⟩
    | false =>
      refine iteF ?_
      refine ⟨_, rfl, p, 4, _, rfl, by decide, by decide, hp2, by omega, fun H3 w3 b3 hp3 l3 u3 => ⟨_, _, rfl, rfl, 1 + w3, rfl, by omega, by omega, fun D hD => ?_⟩⟩
      have npD : p ≠ D := hp3.ne hD
      refine lc_it walk_range (fun i H' => But p H3 H' ∧ PotOk H' p (B + 40 + 200 * (i : Int)) ∧ ∃ (vs : List V) (ds : List (List (List V))), H' D = some (.lst vs) ∧ vs.length = i ∧ Paired (PlA H') vs ds) ⟨But.of (same_new hD), (hp3.same (same_new hD)).le (by omega), [], [], upd_same, rfl, .nil⟩ (fun _ _ _ _ => trivial) ?_ ?_
      · rintro i x H8 H9 hi ⟨b8, hp8, vs, ds, hD8, ei, hpd⟩ ⟨rfl, rfl⟩
        refine ⟨rfl, ?_⟩
        dsimp only [tYes]
        rw [if_pos rfl]
        refine ⟨_, rfl, _, rfl, _, rfl, _, rfl, p, a, ns, most, ord, _, rfl, hp8, by omega, (ha2.but b3 npa.symm).but b8 npa.symm, npa, n2, n9, m4, m16, fun H10 d ys b10 hp10 hy => ?_⟩
        have hD10 := b10 _ _ npD.symm hD8
        have k10 := hp8.keep b10
        have k11 : Keep H10 (upd H10 D (.lst (vs ++ [.ref d]))) := (Keep.refl H10).upd fun u e => by
          rw [hD10] at e
          cases e
          rfl
        refine ⟨vs, hD10, ?_, fun b o nb e => ?_, (hp10.put npD).le (by omega), vs ++ [.ref d], ds ++ [ys], upd_same, ?_, ?_⟩
        · exact Nat.lt_of_le_of_lt (by omega : _ ≤ 100) (by decide)
        · rw [upd_ne (ne_of_none e hD)]
          exact b10 b o nb (b8 b o nb e)
        · rw [List.length_append, List.length_singleton, ei]
        · exact paired_app (paired_imp (fun _ _ r => PlA.keep (k10.trans k11) r) hpd) (paired_one (PlA.keep k11 hy))
      · rintro H8 ⟨b8, hp8, vs, ds, hD8, ei, hpd⟩
        refine ⟨D, vs, rfl, SqL.of hD8, fun l H9 s9 nl hl => ?_⟩
        have hp9 := hp8.same s9
        obtain ⟨ps, z1, z2⟩ := PlsA (K := (cxOf CX0 P w K mg base ["pot", "most", "ordered", "pool", "k"] "_law_plans" (defScope s_law_plans) (He.ga K "_law_plans") cdv A0 outer st H E).K) hp9 hl (paired_imp (fun _ _ r => PlA.keep (Keep.of s9) r) hpd) (by omega) (by omega)
        exact kq H9 l ps ((((b1.trans b2).trans b3).trans b8).trans (But.of s9)) (hp9.le (by omega)) z1 z2
end
end K40

namespace K40
open PySem PySem.Spec PyProof.Rows L2 RZ HX TR RP EQT
/-- a row of such things -/
def Tp {α : Type} (K : PySem.W.Frag) (p : Addr) (R : Hp → V → α → Prop) (H : Hp) (a : Addr) (rs : List α) : Prop := p ≠ a ∧ ∃ xs, SqT K H a xs ∧ Paired (R H) xs rs
theorem Tp.lv {α : Type} {K : PySem.W.Frag} {p : Addr} {R : Hp → V → α → Prop} {H : Hp} {a : Addr} {rs : List α} (h : Tp K p R H a rs) : Lv K p R H (.ref a) (some rs) := by
  obtain ⟨ne, xs, h1, h2⟩ := h
  exact Lv.tup h1 h2 ne
theorem Tp.but {α : Type} {K : PySem.W.Frag} {p : Addr} {R : Hp → V → α → Prop} (s : Stb p R) {H H' : Hp} {a : Addr} {rs : List α} (b : But p H H') (h : Tp K p R H a rs) : Tp K p R H' a rs := by
  obtain ⟨ne, xs, h1, h2⟩ := h
  exact ⟨ne, xs, sqT_but b ne.symm h1, paired_imp (fun _ _ r => s.but b r) h2⟩
theorem Tp.same {α : Type} {K : PySem.W.Frag} {p : Addr} {R : Hp → V → α → Prop} (s : Stb p R) {H H' : Hp} {a : Addr} {rs : List α} (k : Same H H') (h : Tp K p R H a rs) : Tp K p R H' a rs := h.but s (But.of k)
theorem len_ok {n : Nat} (h : n ≤ 1000) : n ≤ sizeLine := Nat.le_trans h (by decide)
theorem all_in {α : Type} {Pr : α → Prop} : ∀ {xs : List α}, (∀ y ∈ xs, Pr y) → ∀ {n : Nat} {y : α}, xs[n]? = some y → Pr y := fun h _ _ hy => h _ (List.mem_of_getElem? hy)
theorem l0_of {K : PySem.W.Frag} {p : Addr} {H : Hp} {xs : List V} (h : xs.all (fun y => scal y (.str Str.empty)) = true) : Paired (L0 K p H) xs xs := l0_scal fun y hy => ⟨y, rfl, List.all_eq_true.mp h y hy⟩
section
variable {P : Program} {w : World} {K : PySem.W.Frag} {mg : Str → Option Value} {base : Heap}
def sp_law_odd (K : PySem.W.Frag) : Sp := fun vs H Q _ => ∃ (p : Addr) (B : Int), vs = [.ref p] ∧ PotOk H p B ∧ B < 2 ^ 38 ∧
  ∀ (H' : Hp) (x : V), But p H H' → PotOk H' p (B + 1) → Any3 K p H' x → Q x H'
theorem ok_law_odd (T : TX K mg) : FnOk P w K mg base CX0 2 (He.ga K "_law_odd") T.fd_law_odd ["pot"] (sp_law_odd K) := by
  have G_law_take : FnOk P w K mg base CX0 1 (He.ga K "_law_take") T.fd_law_take ["pot", "many"] sp_law_take := ok_law_take T
  have b_law_take := b_law_take T
  refine T.F_law_odd.ok sc_law_odd (fun vs H Q E h => ?_) (fun cdv A outer st H vs Q E hr h => ?_)
  · obtain ⟨p, B, rfl, _⟩ := h
    rfl
  · obtain ⟨p, B, rfl, hp, hB, kq⟩ := h
    refine ⟨_, PSs.nox (pss_cons (ps_set (i := 1) sc_law_odd.nd rfl (Or.inl rfl) (RU.pe_lstS (pa_cons pe_non (pa_cons pe_bl (pa_cons pe_bl (pa_cons pe_int (pa_cons pe_int (pa_cons (pe_un un_neg pe_int) (pa_cons pe_int (pa_cons pe_int (pa_cons (pe_op op_powW pe_int pe_int) (pa_cons pe_str (pa_cons pe_str (pa_cons (RU.pe_tupS pa_nil) (pa_cons (RU.pe_lstS pa_nil) (pa_cons pe_dnewK (pa_cons (RU.pe_tupS (pa_cons (RU.pe_tupS pa_nil) pa_nil)) (pa_cons (RU.pe_tupS (pa_cons pe_str (pa_cons pe_int pa_nil))) (pa_cons pe_str pa_nil)))))))))))))))))))
 (pss_one (ps_ret (pe_ix ix_list (pv 1) (pe_call G_law_take (hr.mono (by first | decide | omega)) rfl T.g_law_take T.F_law_take.kp b_law_take .nil pass0 (pa_cons (pv 0) (pa_cons pe_int pa_nil))) (fun _ _ => rfl))))), ?_⟩
    refine ⟨1, rfl, _, _, rfl, rfl, powW_of (a := 4) (by decide) (by decide) (by decide) (by decide), Nat.zero_le _, fun t1 H1 s1 n1 h1 => ⟨Nat.zero_le _, fun t2 H2 s2 n2 h2 => fun dd hdd => ⟨Nat.zero_le _, fun t3 H4 s4 n4 h4 => ⟨by show 1 ≤ sizeLine; decide, fun t5 H5 s5 n5 h5 => ⟨by show 2 ≤ sizeLine; decide, fun t6 H6 s6 n6 h6 => ⟨by show 17 ≤ sizeLine; decide, fun l H7 s7 n7 h7 => ?_⟩⟩⟩⟩⟩⟩
    have s3 : Same H2 (upd H2 dd (.dK [])) := same_new hdd
    have hd3 : upd H2 dd (.dK []) dd = some (.dK []) := upd_same
    generalize upd H2 dd (.dK []) = H3 at s3 hd3 s4 n4
    have s37 := ((s4.trans s5).trans s6).trans s7
    have s27 := s3.trans s37
    have s17 := s2.trans s27
    have hp2 := (hp.same s1).same s2
    have hp3 := hp2.same s3
    have hp4 := hp3.same s4
    have hp5 := hp4.same s5
    have sc : ∀ x : V, scal x (.str Str.empty) = true → Any3 K p H7 x := fun x hx => Any3.non (.inr (.inr hx)) (fun e => by rw [e] at hx; cases hx)
    obtain ⟨L, hL, lL, tL⟩ : ∃ L, H7 l = some (HO.lst L) ∧ L.length = 17 ∧ ∀ y ∈ L, Any3 K p H7 y := ⟨_, h7, rfl, fun y hy => by
      simp only [List.mem_cons, List.not_mem_nil, or_false] at hy
      rcases hy with rfl | rfl | rfl | rfl | rfl | rfl | rfl | rfl | rfl | rfl | rfl | rfl | rfl | rfl | rfl | rfl | rfl
      all_goals first
        | exact sc _ rfl
        | exact Any3.tup (sqT_same s17 (FzT.sq h1)) (hp.ne n1) (by decide) nofun
        | exact Any3.non (.inl ⟨t2, _, rfl, SqL.of (s27 _ _ h2)⟩) (ref_ne ((hp.same s1).ne n2))
        | exact Any3.non (.inr (.inl ⟨dd, _, rfl, s37 _ _ hd3⟩)) (ref_ne (hp2.ne hdd))
        | exact Any3.tup (sqT_same (s6.trans s7) (FzT.sq h5)) (hp4.ne n5) (by show 1 ≤ 1000; decide) fun y hy => by
            obtain rfl := List.mem_singleton.mp hy
            exact Any3.tup (sqT_same ((s5.trans s6).trans s7) (FzT.sq h4)) (hp3.ne n4) (by decide) nofun
        | exact Any3.tup (sqT_same s7 (FzT.sq h6)) (hp5.ne n6) (by show 2 ≤ 1000; decide) fun y hy => by
            simp only [List.mem_cons, List.not_mem_nil, or_false] at hy
            rcases hy with rfl | rfl <;> exact sc _ rfl⟩
    have s07 : Same H H7 := s1.trans s17
    have npl : p ≠ l := (hp5.same s6).ne n7
    refine ⟨_, rfl, _, rfl, p, 17, B, rfl, by decide, by decide, hp.same s07, by omega, fun H8 w8 b8 hp8 l8 u8 => ?_⟩
    obtain ⟨y, hy⟩ : ∃ y, L[w8.toNat]? = some y := ⟨L[w8.toNat]'(by omega), List.getElem?_eq_getElem _⟩
    exact ⟨l, L, _, y, rfl, rfl, SqL.of (b8 _ _ npl.symm hL), HX.at_of (j := w8.toNat) hy (by omega), kq H8 y ((But.of s07).trans b8) hp8 (Any3.but b8 (tL y (List.mem_of_getElem? hy)))⟩
def sp_law_bent_step (K : PySem.W.Frag) : Sp := fun vs H Q _ => ∃ (p d : Addr) (xs : List V) (B : Int), vs = [.ref p, .ref d] ∧ SqT K H d xs ∧ StpOk xs ∧ p ≠ d ∧ PotOk H p B ∧ B < 2 ^ 37 ∧
  ∀ (H' : Hp) (x : V), But p H H' → PotOk H' p (B + 10) → (∃ r, Stp K p H' x r) → Q x H'
theorem ok_law_bent_step (T : TX K mg) : FnOk P w K mg base CX0 3 (He.ga K "_law_bent_step") T.fd_law_bent_step ["pot", "step"] (sp_law_bent_step K) := by
  have G_law_take : FnOk P w K mg base CX0 1 (He.ga K "_law_take") T.fd_law_take ["pot", "many"] sp_law_take := ok_law_take T
  have b_law_take := b_law_take T
  have G_law_odd : FnOk P w K mg base CX0 2 (He.ga K "_law_odd") T.fd_law_odd ["pot"] (sp_law_odd K) := ok_law_odd T
  have b_law_odd := b_law_odd T
  refine T.F_law_bent_step.ok sc_law_bent_step (fun vs H Q E h => ?_) (fun cdv A outer st H vs Q E hr h => ?_)
  · obtain ⟨p, d, xs, B, rfl, _⟩ := h
    rfl
  · obtain ⟨p, d, xs, B, rfl, hd, hS, npd, hp, hB, kq⟩ := h
    refine ⟨_, PSs.nox (pss_cons (ps_set (i := 2) sc_law_bent_step.nd rfl (Or.inl rfl) (pe_call G_law_odd (hr.mono (by first | decide | omega)) rfl T.g_law_odd T.F_law_odd.kp b_law_odd .nil pass0 (pa_cons (pv 0) pa_nil)))
 (pss_cons (ps_set (i := 3) sc_law_bent_step.nd rfl (Or.inl rfl) (RU.pe_lstS (pa_cons (pe_op EQT.op_catTN (RU.pe_tupS (pa_cons (pv 2) pa_nil)) (pe_slice EQT.sl_tupN (pv 1) (po_some pe_int) po_none)) (pa_cons (pe_op EQT.op_catTN (pe_op EQT.op_catTN (pe_slice EQT.sl_tupN (pv 1) po_none (po_some pe_int)) (RU.pe_tupS (pa_cons (pv 2) pa_nil))) (pe_slice EQT.sl_tupN (pv 1) (po_some pe_int) po_none)) (pa_cons (pe_op EQT.op_catTN (pe_slice EQT.sl_tupN (pv 1) po_none (po_some pe_int)) (RU.pe_tupS (pa_cons (pv 2) pa_nil))) (pa_cons (pe_slice EQT.sl_tupN (pv 1) po_none (po_some pe_int)) (pa_cons (pe_op EQT.op_catTN (pv 1) (RU.pe_tupS (pa_cons pe_bl pa_nil))) (pa_cons (pe_callTy RU.call_lstS rfl T.n_list (by decide +kernel) (pa_cons (pv 1) pa_nil)) pa_nil))))))))
 (pss_cons (ps_set (i := 3) sc_law_bent_step.nd rfl (Or.inl rfl) (pe_op RU.op_catLS (pv 3) (RU.pe_lstS (pa_cons (pv 2) (pa_cons (RU.pe_tupS (pa_cons pe_str (pa_cons (pe_ix ix_tup (pv 1) pe_int (fun _ _ => rfl)) pa_nil))) (pa_cons (RU.pe_tupS (pa_cons pe_str (pa_cons (pe_ix ix_tup (pv 1) pe_int (fun _ _ => rfl)) (pa_cons pe_bl pa_nil)))) (pa_cons (pe_op EQT.op_catTN (RU.pe_tupS (pa_cons pe_str pa_nil)) (pe_slice EQT.sl_tupN (pv 1) (po_some pe_int) po_none)) (pa_cons (RU.pe_tupS (pa_cons (pe_ix ix_tup (pv 1) pe_int (fun _ _ => rfl)) (pa_cons (pe_ix ix_tup (pv 1) pe_int (fun _ _ => rfl)) pa_nil))) (pa_cons (pe_slice EQT.sl_tupN (pv 1) po_none (po_some pe_int)) pa_nil)))))))))
 (pss_one (ps_ret (pe_ix ix_list (pv 3) (pe_call G_law_take (hr.mono (by first | decide | omega)) rfl T.g_law_take T.F_law_take.kp b_law_take .nil pass0 (pa_cons (pv 0) (pa_cons pe_int pa_nil))) (fun _ _ => rfl))))))), ?_⟩
    refine ⟨_, rfl, p, B, rfl, hp, by omega, fun H1 x b1 hp1 hx => ?_⟩
    have d1 := sqT_but b1 npd.symm hd
    have lx : xs.length ≤ 3 := by
      obtain ⟨n, _, _, h⟩ := hS
      rcases h with rfl | ⟨b, rfl⟩
      · show 2 ≤ 3
        decide
      · show 3 ≤ 3
        decide
    obtain ⟨w0, n, e0, e1⟩ : ∃ (w0 : Str) (n : Int), xs[0]? = some (.str w0) ∧ xs[1]? = some (.int n) := by
      obtain ⟨n, _, _, h⟩ := hS
      rcases h with rfl | ⟨b, rfl⟩
      · exact ⟨_, n, rfl, rfl⟩
      · exact ⟨_, n, rfl, rfl⟩
    have hx0 : L0 K p H1 x x := by
      obtain ⟨⟨r, h⟩, _⟩ := hx
      exact h.thg
    have cl : ∀ lo hi : Option Int, (cutV xs lo hi).length ≤ 3 := fun lo hi => Nat.le_trans (cutV_length xs lo hi) (by omega)
    have g_d : Tx K p (L0 K p) H1 d xs xs := ⟨npd, d1, l0_scal hS.scal⟩
    have l_d : xs.length ≤ 3 := lx
    refine ⟨_, rfl, by show 1 ≤ sizeLine; decide, fun q1 H2 s2 m2 h2 => ?_⟩
    have b2 : But p H1 H2 := But.of s2
    have hp2 := hp1.same s2
    have g_o1 : Tx K p (L0 K p) H2 q1 [x] _ := Tx.new stb0 (paired_one hx0) hp1 s2 m2 (FzT.sq h2)
    have l_o1 : List.length ([x] : List V) ≤ 1 := Nat.le_refl _
    refine ⟨_, rfl, 1, rfl, d, _, rfl, (g_d.but stb0 b2).sq, fun q2 H3 s3 m3 h3 => ?_⟩
    have b3 : But p H2 H3 := But.of s3
    have hp3 := hp2.same s3
    have g_c1 := (g_d.but stb0 b2).cut stb0 hp2 s3 m3 h3
    have l_c1 := cutV_le (lo := (some (1))) (hi := none) l_d
    refine ⟨q1, q2, _, _, rfl, rfl, (g_o1.but stb0 b3).sq, g_c1.sq, len_ok (by have := l_o1; have := l_c1; omega), fun q3 H4 s4 m4 h4 => ?_⟩
    have b4 : But p H3 H4 := But.of s4
    have hp4 := hp3.same s4
    have g_e1 := Tx.cat stb0 (g_o1.but stb0 b3) g_c1 hp3 s4 m4 h4
    have l_e1 := cat_le l_o1 l_c1
    refine ⟨_, rfl, 1, rfl, d, _, rfl, (g_d.but stb0 ((b2.trans b3).trans b4)).sq, fun q4 H5 s5 m5 h5 => ?_⟩
    have b5 : But p H4 H5 := But.of s5
    have hp5 := hp4.same s5
    have g_c2 := (g_d.but stb0 ((b2.trans b3).trans b4)).cut stb0 hp4 s5 m5 h5
    have l_c2 := cutV_le (lo := none) (hi := (some (1))) l_d
    refine ⟨_, rfl, by show 1 ≤ sizeLine; decide, fun q5 H6 s6 m6 h6 => ?_⟩
    have b6 : But p H5 H6 := But.of s6
    have hp6 := hp5.same s6
    have g_o2 : Tx K p (L0 K p) H6 q5 [x] _ := Tx.new stb0 (paired_one (stb0.but (((b2.trans b3).trans b4).trans b5) hx0)) hp5 s6 m6 (FzT.sq h6)
    have l_o2 : List.length ([x] : List V) ≤ 1 := Nat.le_refl _
    refine ⟨q4, q5, _, _, rfl, rfl, (g_c2.but stb0 b6).sq, g_o2.sq, len_ok (by have := l_c2; have := l_o2; omega), fun q6 H7 s7 m7 h7 => ?_⟩
    have b7 : But p H6 H7 := But.of s7
    have hp7 := hp6.same s7
    have g_f2 := Tx.cat stb0 (g_c2.but stb0 b6) g_o2 hp6 s7 m7 h7
    have l_f2 := cat_le l_c2 l_o2
    refine ⟨_, rfl, 2, rfl, d, _, rfl, (g_d.but stb0 (((((b2.trans b3).trans b4).trans b5).trans b6).trans b7)).sq, fun q7 H8 s8 m8 h8 => ?_⟩
    have b8 : But p H7 H8 := But.of s8
    have hp8 := hp7.same s8
    have g_c3 := (g_d.but stb0 (((((b2.trans b3).trans b4).trans b5).trans b6).trans b7)).cut stb0 hp7 s8 m8 h8
    have l_c3 := cutV_le (lo := (some (2))) (hi := none) l_d
    refine ⟨q6, q7, _, _, rfl, rfl, (g_f2.but stb0 b8).sq, g_c3.sq, len_ok (by have := l_f2; have := l_c3; omega), fun q8 H9 s9 m9 h9 => ?_⟩
    have b9 : But p H8 H9 := But.of s9
    have hp9 := hp8.same s9
    have g_e2 := Tx.cat stb0 (g_f2.but stb0 b8) g_c3 hp8 s9 m9 h9
    have l_e2 := cat_le l_f2 l_c3
    refine ⟨_, rfl, 2, rfl, d, _, rfl, (g_d.but stb0 (((((((b2.trans b3).trans b4).trans b5).trans b6).trans b7).trans b8).trans b9)).sq, fun q9 H10 s10 m10 h10 => ?_⟩
    have b10 : But p H9 H10 := But.of s10
    have hp10 := hp9.same s10
    have g_c4 := (g_d.but stb0 (((((((b2.trans b3).trans b4).trans b5).trans b6).trans b7).trans b8).trans b9)).cut stb0 hp9 s10 m10 h10
    have l_c4 := cutV_le (lo := none) (hi := (some (2))) l_d
    refine ⟨_, rfl, by show 1 ≤ sizeLine; decide, fun q10 H11 s11 m11 h11 => ?_⟩
    have b11 : But p H10 H11 := But.of s11
    have hp11 := hp10.same s11
    have g_o4 : Tx K p (L0 K p) H11 q10 [x] _ := Tx.new stb0 (paired_one (stb0.but ((((((((b2.trans b3).trans b4).trans b5).trans b6).trans b7).trans b8).trans b9).trans b10) hx0)) hp10 s11 m11 (FzT.sq h11)
    have l_o4 : List.length ([x] : List V) ≤ 1 := Nat.le_refl _
    refine ⟨q9, q10, _, _, rfl, rfl, (g_c4.but stb0 b11).sq, g_o4.sq, len_ok (by have := l_c4; have := l_o4; omega), fun q11 H12 s12 m12 h12 => ?_⟩
    have b12 : But p H11 H12 := But.of s12
    have hp12 := hp11.same s12
    have g_e3 := Tx.cat stb0 (g_c4.but stb0 b11) g_o4 hp11 s12 m12 h12
    have l_e3 := cat_le l_c4 l_o4
    refine ⟨_, rfl, 2, rfl, d, _, rfl, (g_d.but stb0 ((((((((((b2.trans b3).trans b4).trans b5).trans b6).trans b7).trans b8).trans b9).trans b10).trans b11).trans b12)).sq, fun q12 H13 s13 m13 h13 => ?_⟩
    have b13 : But p H12 H13 := But.of s13
    have hp13 := hp12.same s13
    have g_e4 := (g_d.but stb0 ((((((((((b2.trans b3).trans b4).trans b5).trans b6).trans b7).trans b8).trans b9).trans b10).trans b11).trans b12)).cut stb0 hp12 s13 m13 h13
    have l_e4 := cutV_le (lo := none) (hi := (some (2))) l_d
    refine ⟨_, rfl, by show 1 ≤ sizeLine; decide, fun q13 H14 s14 m14 h14 => ?_⟩
    have b14 : But p H13 H14 := But.of s14
    have hp14 := hp13.same s14
    have g_o5 : Tx K p (L0 K p) H14 q13 [.bl true] _ := Tx.new stb0 (l0_of rfl) hp13 s14 m14 (FzT.sq h14)
    have l_o5 : List.length ([.bl true] : List V) ≤ 1 := Nat.le_refl _
    refine ⟨d, q13, _, _, rfl, rfl, (g_d.but stb0 ((((((((((((b2.trans b3).trans b4).trans b5).trans b6).trans b7).trans b8).trans b9).trans b10).trans b11).trans b12).trans b13).trans b14)).sq, g_o5.sq, len_ok (by have := l_d; have := l_o5; omega), fun q14 H15 s15 m15 h15 => ?_⟩
    have b15 : But p H14 H15 := But.of s15
    have hp15 := hp14.same s15
    have g_e5 := Tx.cat stb0 (g_d.but stb0 ((((((((((((b2.trans b3).trans b4).trans b5).trans b6).trans b7).trans b8).trans b9).trans b10).trans b11).trans b12).trans b13).trans b14)) g_o5 hp14 s15 m15 h15
    have l_e5 := cat_le l_d l_o5
    refine ⟨_, rfl, d, xs, rfl, .inr (g_d.but stb0 (((((((((((((b2.trans b3).trans b4).trans b5).trans b6).trans b7).trans b8).trans b9).trans b10).trans b11).trans b12).trans b13).trans b14).trans b15)).sq, fun q15 H16 s16 m16 h16 => ?_⟩
    have b16 : But p H15 H16 := But.of s16
    have hp16 := hp15.same s16
    refine ⟨by show 6 ≤ sizeLine; decide, fun q16 H17 s17 m17 h17 => ?_⟩
    have b17 : But p H16 H17 := But.of s17
    have hp17 := hp16.same s17
    refine ⟨_, rfl, _, rfl, _, rfl, d, xs, 1, .int n, rfl, rfl, (g_d.but stb0 (((((((((((((((b2.trans b3).trans b4).trans b5).trans b6).trans b7).trans b8).trans b9).trans b10).trans b11).trans b12).trans b13).trans b14).trans b15).trans b16).trans b17)).sq, HX.at_of (j := 1) e1 rfl, by show 2 ≤ sizeLine; decide, fun q17 H18 s18 m18 h18 => ?_⟩
    have b18 : But p H17 H18 := But.of s18
    have hp18 := hp17.same s18
    have g_r1 : Tx K p (L0 K p) H18 q17 [.str "let", .int n] _ := Tx.new stb0 (l0_of rfl) hp17 s18 m18 (FzT.sq h18)
    have l_r1 : List.length ([.str "let", .int n] : List V) ≤ 2 := Nat.le_refl _
    refine ⟨_, rfl, d, xs, 1, .int n, rfl, rfl, (g_d.but stb0 ((((((((((((((((b2.trans b3).trans b4).trans b5).trans b6).trans b7).trans b8).trans b9).trans b10).trans b11).trans b12).trans b13).trans b14).trans b15).trans b16).trans b17).trans b18)).sq, HX.at_of (j := 1) e1 rfl, by show 3 ≤ sizeLine; decide, fun q18 H19 s19 m19 h19 => ?_⟩
    have b19 : But p H18 H19 := But.of s19
    have hp19 := hp18.same s19
    have g_r2 : Tx K p (L0 K p) H19 q18 [.str "take", .int n, .bl false] _ := Tx.new stb0 (l0_of rfl) hp18 s19 m19 (FzT.sq h19)
    have l_r2 : List.length ([.str "take", .int n, .bl false] : List V) ≤ 3 := Nat.le_refl _
    refine ⟨by show 1 ≤ sizeLine; decide, fun q19 H20 s20 m20 h20 => ?_⟩
    have b20 : But p H19 H20 := But.of s20
    have hp20 := hp19.same s20
    have g_r3 : Tx K p (L0 K p) H20 q19 [.str "Take"] _ := Tx.new stb0 (l0_of rfl) hp19 s20 m20 (FzT.sq h20)
    have l_r3 : List.length ([.str "Take"] : List V) ≤ 1 := Nat.le_refl _
    refine ⟨_, rfl, 1, rfl, d, _, rfl, (g_d.but stb0 ((((((((((((((((((b2.trans b3).trans b4).trans b5).trans b6).trans b7).trans b8).trans b9).trans b10).trans b11).trans b12).trans b13).trans b14).trans b15).trans b16).trans b17).trans b18).trans b19).trans b20)).sq, fun q20 H21 s21 m21 h21 => ?_⟩
    have b21 : But p H20 H21 := But.of s21
    have hp21 := hp20.same s21
    have g_c7 := (g_d.but stb0 ((((((((((((((((((b2.trans b3).trans b4).trans b5).trans b6).trans b7).trans b8).trans b9).trans b10).trans b11).trans b12).trans b13).trans b14).trans b15).trans b16).trans b17).trans b18).trans b19).trans b20)).cut stb0 hp20 s21 m21 h21
    have l_c7 := cutV_le (lo := (some (1))) (hi := none) l_d
    refine ⟨q19, q20, _, _, rfl, rfl, (g_r3.but stb0 b21).sq, g_c7.sq, len_ok (by have := l_r3; have := l_c7; omega), fun q21 H22 s22 m22 h22 => ?_⟩
    have b22 : But p H21 H22 := But.of s22
    have hp22 := hp21.same s22
    have g_r4 := Tx.cat stb0 (g_r3.but stb0 b21) g_c7 hp21 s22 m22 h22
    have l_r4 := cat_le l_r3 l_c7
    refine ⟨_, rfl, d, xs, 1, .int n, rfl, rfl, (g_d.but stb0 ((((((((((((((((((((b2.trans b3).trans b4).trans b5).trans b6).trans b7).trans b8).trans b9).trans b10).trans b11).trans b12).trans b13).trans b14).trans b15).trans b16).trans b17).trans b18).trans b19).trans b20).trans b21).trans b22)).sq, HX.at_of (j := 1) e1 rfl, _, rfl, d, xs, 0, .str w0, rfl, rfl, (g_d.but stb0 ((((((((((((((((((((b2.trans b3).trans b4).trans b5).trans b6).trans b7).trans b8).trans b9).trans b10).trans b11).trans b12).trans b13).trans b14).trans b15).trans b16).trans b17).trans b18).trans b19).trans b20).trans b21).trans b22)).sq, HX.at_of (j := 0) e0 rfl, by show 2 ≤ sizeLine; decide, fun q22 H23 s23 m23 h23 => ?_⟩
    have b23 : But p H22 H23 := But.of s23
    have hp23 := hp22.same s23
    have g_r5 : Tx K p (L0 K p) H23 q22 [.int n, .str w0] _ := Tx.new stb0 (l0_of rfl) hp22 s23 m23 (FzT.sq h23)
    have l_r5 : List.length ([.int n, .str w0] : List V) ≤ 2 := Nat.le_refl _
    refine ⟨_, rfl, 1, rfl, d, _, rfl, (g_d.but stb0 (((((((((((((((((((((b2.trans b3).trans b4).trans b5).trans b6).trans b7).trans b8).trans b9).trans b10).trans b11).trans b12).trans b13).trans b14).trans b15).trans b16).trans b17).trans b18).trans b19).trans b20).trans b21).trans b22).trans b23)).sq, fun q23 H24 s24 m24 h24 => ?_⟩
    have b24 : But p H23 H24 := But.of s24
    have hp24 := hp23.same s24
    have g_r6 := (g_d.but stb0 (((((((((((((((((((((b2.trans b3).trans b4).trans b5).trans b6).trans b7).trans b8).trans b9).trans b10).trans b11).trans b12).trans b13).trans b14).trans b15).trans b16).trans b17).trans b18).trans b19).trans b20).trans b21).trans b22).trans b23)).cut stb0 hp23 s24 m24 h24
    have l_r6 := cutV_le (lo := none) (hi := (some (1))) l_d
    refine ⟨by show 6 ≤ sizeLine; decide, fun q24 H25 s25 m25 h25 => ?_⟩
    have b25 : But p H24 H25 := But.of s25
    have hp25 := hp24.same s25
    refine ⟨q16, q24, _, _, rfl, rfl, (((((((b18.trans b19).trans b20).trans b21).trans b22).trans b23).trans b24).trans b25) _ _ (hp16.ne m17).symm h17, h25, by show 6 + 6 ≤ sizeLine; decide, fun q25 H26 s26 m26 h26 => ?_⟩
    have b26 : But p H25 H26 := But.of s26
    have hp26 := hp25.same s26
    have hxN := (stbS stb0).but ((((((((((((((((((((((((b2.trans b3).trans b4).trans b5).trans b6).trans b7).trans b8).trans b9).trans b10).trans b11).trans b12).trans b13).trans b14).trans b15).trans b16).trans b17).trans b18).trans b19).trans b20).trans b21).trans b22).trans b23).trans b24).trans b25).trans b26) (hx.1.choose_spec)
    obtain ⟨L, hL, lL, tL⟩ : ∃ L, H26 q25 = some (HO.lst L) ∧ L.length = 12 ∧ ∀ y ∈ L, ∃ r, Stp K p H26 y r := ⟨_, h26, rfl, fun y hy => by
      replace hy : y ∈ [V.ref q3, V.ref q8, V.ref q11, V.ref q12, V.ref q14, V.ref q15, x, V.ref q17, V.ref q18, V.ref q21, V.ref q22, V.ref q23] := hy
      simp only [List.mem_cons, List.not_mem_nil, or_false] at hy
      rcases hy with rfl | rfl | rfl | rfl | rfl | rfl | rfl | rfl | rfl | rfl | rfl | rfl
      · exact ⟨_, Tx.lv (g_e1.but stb0 (((((((((((((((((((((b5.trans b6).trans b7).trans b8).trans b9).trans b10).trans b11).trans b12).trans b13).trans b14).trans b15).trans b16).trans b17).trans b18).trans b19).trans b20).trans b21).trans b22).trans b23).trans b24).trans b25).trans b26))⟩
      · exact ⟨_, Tx.lv (g_e2.but stb0 ((((((((((((((((b10.trans b11).trans b12).trans b13).trans b14).trans b15).trans b16).trans b17).trans b18).trans b19).trans b20).trans b21).trans b22).trans b23).trans b24).trans b25).trans b26))⟩
      · exact ⟨_, Tx.lv (g_e3.but stb0 (((((((((((((b13.trans b14).trans b15).trans b16).trans b17).trans b18).trans b19).trans b20).trans b21).trans b22).trans b23).trans b24).trans b25).trans b26))⟩
      · exact ⟨_, Tx.lv (g_e4.but stb0 ((((((((((((b14.trans b15).trans b16).trans b17).trans b18).trans b19).trans b20).trans b21).trans b22).trans b23).trans b24).trans b25).trans b26))⟩
      · exact ⟨_, Tx.lv (g_e5.but stb0 ((((((((((b16.trans b17).trans b18).trans b19).trans b20).trans b21).trans b22).trans b23).trans b24).trans b25).trans b26))⟩
      · exact ⟨_, Lv.non (.inl ⟨q15, _, rfl, SqL.of ((((((((((b17.trans b18).trans b19).trans b20).trans b21).trans b22).trans b23).trans b24).trans b25).trans b26) _ _ (hp15.ne m16).symm h16)⟩) (ref_ne (hp15.ne m16))⟩
      · exact ⟨_, hxN⟩
      · exact ⟨_, Tx.lv (g_r1.but stb0 (((((((b19.trans b20).trans b21).trans b22).trans b23).trans b24).trans b25).trans b26))⟩
      · exact ⟨_, Tx.lv (g_r2.but stb0 ((((((b20.trans b21).trans b22).trans b23).trans b24).trans b25).trans b26))⟩
      · exact ⟨_, Tx.lv (g_r4.but stb0 (((b23.trans b24).trans b25).trans b26))⟩
      · exact ⟨_, Tx.lv (g_r5.but stb0 ((b24.trans b25).trans b26))⟩
      · exact ⟨_, Tx.lv (g_r6.but stb0 (b25.trans b26))⟩⟩
    refine ⟨_, rfl, _, rfl, p, 12, _, rfl, by decide, by decide, hp26, by omega, fun HZ wz bz hpz lz uz => ?_⟩
    obtain ⟨y, hy⟩ : ∃ y, L[wz.toNat]? = some y := ⟨L[wz.toNat]'(by omega), List.getElem?_eq_getElem _⟩
    obtain ⟨r, hr⟩ := tL y (List.mem_of_getElem? hy)
    exact ⟨q25, L, _, y, rfl, rfl, SqL.of (bz _ _ (hp25.ne m26).symm hL), HX.at_of (j := wz.toNat) hy (by omega), kq HZ y ((b1.trans ((((((((((((((((((((((((b2.trans b3).trans b4).trans b5).trans b6).trans b7).trans b8).trans b9).trans b10).trans b11).trans b12).trans b13).trans b14).trans b15).trans b16).trans b17).trans b18).trans b19).trans b20).trans b21).trans b22).trans b23).trans b24).trans b25).trans b26)).trans bz) (hpz.le (by omega)) ⟨r, (stbS stb0).but bz hr⟩⟩
end
end K40

namespace K40
open PySem PySem.Spec PyProof.Rows L2 RZ HX TR RP EQT
theorem sqT_keep {K : PySem.W.Frag} {H H' : Hp} {a : Addr} {xs : List V} (k : Keep H H') (h : SqT K H a xs) : SqT K H' a xs := by
  rcases h with (h | ⟨o, h⟩) | h
  · exact .inl (.inl (k _ _ h))
  · exact .inl (.inr ⟨o, k.frz h⟩)
  · exact .inr h
theorem Tx.bd {α : Type} {K : PySem.W.Frag} {p : Addr} {R : Hp → V → α → Prop} {H : Hp} {a : Addr} {xs : List V} {rs : List α} (h : Tx K p R H a xs rs) {n : Nat} (l : xs.length ≤ n) (n9 : n ≤ 1000) : Bd2 (some rs) := fun ss e => by
  cases e
  rw [← h.pr.length]
  omega
section
variable {P : Program} {w : World} {K : PySem.W.Frag} {mg : Str → Option Value} {base : Heap}
def sp_law_bent_plan (K : PySem.W.Frag) : Sp := fun vs H Q _ => ∃ (p d : Addr) (xs : List V) (ss : List (Option (List V))) (B : Int), vs = [.ref p, .ref d] ∧ Tx K p (Stp K p) H d xs ss ∧ GoodSs ss ∧ PotOk H p B ∧ B < 2 ^ 36 ∧
  ∀ (H' : Hp) (x : V), But p H H' → PotOk H' p (B + 30) → (∃ r, Pln K p H' x r ∧ Bd2 r) → Q x H'
theorem ok_law_bent_plan (T : TX K mg) : FnOk P w K mg base CX0 4 (He.ga K "_law_bent_plan") T.fd_law_bent_plan ["pot", "plan"] (sp_law_bent_plan K) := by
  have G_law_take : FnOk P w K mg base CX0 1 (He.ga K "_law_take") T.fd_law_take ["pot", "many"] sp_law_take := ok_law_take T
  have b_law_take := b_law_take T
  have G_law_odd : FnOk P w K mg base CX0 2 (He.ga K "_law_odd") T.fd_law_odd ["pot"] (sp_law_odd K) := ok_law_odd T
  have b_law_odd := b_law_odd T
  have G_law_bent_step : FnOk P w K mg base CX0 3 (He.ga K "_law_bent_step") T.fd_law_bent_step ["pot", "step"] (sp_law_bent_step K) := ok_law_bent_step T
  have b_law_bent_step := b_law_bent_step T
  refine T.F_law_bent_plan.ok sc_law_bent_plan (fun vs H Q E h => ?_) (fun cdv A outer st H vs Q E hr h => ?_)
  · obtain ⟨p, d, xs, ss, B, rfl, _⟩ := h
    rfl
  · obtain ⟨p, d, xs, ss, B, rfl, hT, ⟨hl, hok⟩, hp, hB, kq⟩ := h
    refine ⟨_, PSs.nox (pss_cons (ps_set (i := 2) sc_law_bent_plan.nd rfl (Or.inl rfl) (pe_call G_law_take (hr.mono (by first | decide | omega)) rfl T.g_law_take T.F_law_take.kp b_law_take .nil pass0 (pa_cons (pv 0) (pa_cons (pe_op op_add (pe_callB call_len_seq rfl T.n_len PySem.boot_len (pa_cons (pv 1) pa_nil)) pe_int) pa_nil))))
 (pss_cons (ps_set (i := 3) sc_law_bent_plan.nd rfl (Or.inl rfl) (pe_ix ix_tup (pe_op EQT.op_catTN (pe_slice EQT.sl_tupN (pv 1) (po_some (pv 2)) po_none) (RU.pe_tupS (pa_cons (RU.pe_tupS (pa_cons pe_str (pa_cons pe_int (pa_cons pe_bl pa_nil)))) pa_nil))) pe_int (fun _ _ => rfl)))
 (pss_cons (ps_set (i := 4) sc_law_bent_plan.nd rfl (Or.inl rfl) (RU.pe_lstS (pa_cons (pe_op EQT.op_catTN (pe_slice EQT.sl_tupN (pv 1) po_none (po_some (pv 2))) (pe_slice EQT.sl_tupN (pv 1) (po_some (pe_op op_add (pv 2) pe_int)) po_none)) (pa_cons (pe_op EQT.op_catTN (pe_op EQT.op_catTN (pe_slice EQT.sl_tupN (pv 1) po_none (po_some (pv 2))) (RU.pe_tupS (pa_cons (pv 3) pa_nil))) (pe_slice EQT.sl_tupN (pv 1) (po_some (pv 2)) po_none)) (pa_cons (pe_op EQT.op_catTN (pe_op EQT.op_catTN (pe_slice EQT.sl_tupN (pv 1) po_none (po_some (pv 2))) (pe_slice EQT.sl_tupN (pv 1) (po_some (pe_op op_add (pv 2) pe_int)) (po_some (pe_op op_add (pv 2) pe_int)))) (RU.pe_tupS (pa_cons (pv 3) pa_nil))) pa_nil)))))
 (pss_cons (ps_set (i := 4) sc_law_bent_plan.nd rfl (Or.inl rfl) (pe_op RU.op_catLS (pv 4) (RU.pe_lstS (pa_cons (pe_op EQT.op_catTN (pe_op EQT.op_catTN (pe_slice EQT.sl_tupN (pv 1) po_none (po_some (pv 2))) (RU.pe_tupS (pa_cons (pe_call G_law_bent_step (hr.mono (by first | decide | omega)) rfl T.g_law_bent_step T.F_law_bent_step.kp b_law_bent_step .nil pass0 (pa_cons (pv 0) (pa_cons (pv 3) pa_nil))) pa_nil))) (pe_slice EQT.sl_tupN (pv 1) (po_some (pe_op op_add (pv 2) pe_int)) po_none)) (pa_cons (pe_callTy RU.call_lstS rfl T.n_list (by decide +kernel) (pa_cons (pv 1) pa_nil)) (pa_cons (pe_call G_law_odd (hr.mono (by first | decide | omega)) rfl T.g_law_odd T.F_law_odd.kp b_law_odd .nil pass0 (pa_cons (pv 0) pa_nil)) (pa_cons (pe_op EQT.op_repTS (pv 1) pe_int) pa_nil)))))))
 (pss_cons (ps_asg (pe_op EQT.op_catTN (pe_ix ix_list (pv 4) pe_int (fun _ _ => rfl)) (pe_slice EQT.sl_tupN (pv 1) (po_some (pe_op op_add (pv 2) pe_int)) po_none)) (pg_sub (pv 4) pe_int set_list))
 (pss_one (ps_ret (pe_ix ix_list (pe_op RU.op_catLS (pv 4) (RU.pe_lstS (pa_cons (EQT.pe_revT (pv 1)) (pa_cons (pe_op EQT.op_catTN (pv 1) (RU.pe_tupS (pa_cons (RU.pe_tupS (pa_cons pe_str (pa_cons pe_int (pa_cons pe_bl pa_nil)))) (pa_cons (RU.pe_tupS (pa_cons pe_str (pa_cons pe_int pa_nil))) pa_nil)))) pa_nil)))) (pe_call G_law_take (hr.mono (by first | decide | omega)) rfl T.g_law_take T.F_law_take.kp b_law_take .nil pass0 (pa_cons (pv 0) (pa_cons pe_int pa_nil))) (fun _ _ => rfl))))))))), ?_⟩
    have l_d : xs.length ≤ 64 := by rw [hT.pr.length]; exact hl
    refine ⟨_, rfl, _, rfl, d, xs, rfl, .inr hT.sq, _, _, rfl, rfl, p, (xs.length : Int) + 1, B, rfl, by omega, by omega, hp, by omega, fun H1 w1 b1 hp1 l1 u1 => ?_⟩
    have g_d : Tx K p (Stp K p) H1 d xs ss := hT.but (stbS stb0) b1
    refine ⟨_, rfl, _, rfl, w1, rfl, d, _, rfl, g_d.sq, fun q1 H2 s2 m2 h2 => ?_⟩
    have b2 : But p H1 H2 := But.of s2
    have hp2 := hp1.same s2
    have g_c1 := g_d.cut (stbS stb0) hp1 s2 m2 h2
    have l_c1 := cutV_le (lo := (some (w1))) (hi := none) l_d
    refine ⟨by show 3 ≤ sizeLine; decide, fun q2 H3 s3 m3 h3 => ?_⟩
    have b3 : But p H2 H3 := But.of s3
    have hp3 := hp2.same s3
    have g_tk : Tx K p (L0 K p) H3 q2 [.str "take", .int 60, .bl true] _ := Tx.new stb0 (l0_of rfl) hp2 s3 m3 (FzT.sq h3)
    have l_tk : List.length ([.str "take", .int 60, .bl true] : List V) ≤ 3 := Nat.le_refl _
    refine ⟨by show 1 ≤ sizeLine; decide, fun q3 H4 s4 m4 h4 => ?_⟩
    have b4 : But p H3 H4 := But.of s4
    have hp4 := hp3.same s4
    have g_tk1 : Tx K p (Stp K p) H4 q3 [.ref q2] _ := Tx.new (stbS stb0) (paired_one g_tk.lv) hp3 s4 m4 (FzT.sq h4)
    have l_tk1 : List.length ([.ref q2] : List V) ≤ 1 := Nat.le_refl _
    refine ⟨q1, q3, _, _, rfl, rfl, (g_c1.but (stbS stb0) (b3.trans b4)).sq, g_tk1.sq, len_ok (by have := l_c1; have := l_tk1; omega), fun q4 H5 s5 m5 h5 => ?_⟩
    have b5 : But p H4 H5 := But.of s5
    have hp5 := hp4.same s5
    have g_st := Tx.cat (stbS stb0) (g_c1.but (stbS stb0) (b3.trans b4)) g_tk1 hp4 s5 m5 h5
    have l_st := cat_le l_c1 l_tk1
    obtain ⟨y, ey⟩ : ∃ y, (cutV xs (some w1) none ++ [.ref q2])[0]? = some y := ⟨(cutV xs (some w1) none ++ [.ref q2])[0]'(by rw [List.length_append]; show 0 < _ + 1; omega), List.getElem?_eq_getElem _⟩
    obtain ⟨sy, esy, hy⟩ := pget1 g_st.pr ey
    have oky : (st1 sy).isSome = true := by
      rcases List.mem_append.mp (List.mem_of_getElem? esy) with h | h
      · exact hok sy (cutA_mem h)
      · obtain rfl := List.mem_singleton.mp h
        exact StpOk.ok1 ⟨60, by decide, by decide, .inr ⟨true, rfl⟩⟩
    obtain ⟨⟨ty, ny⟩, ety⟩ := Option.isSome_iff_exists.mp oky
    refine ⟨q4, _, 0, y, rfl, rfl, g_st.sq, HX.at_of (j := 0) ey rfl, ?_⟩
    refine ⟨_, rfl, _, rfl, w1, rfl, d, _, rfl, (g_d.but (stbS stb0) (((b2.trans b3).trans b4).trans b5)).sq, fun q5 H6 s6 m6 h6 => ?_⟩
    have b6 : But p H5 H6 := But.of s6
    have hp6 := hp5.same s6
    have g_a1 := (g_d.but (stbS stb0) (((b2.trans b3).trans b4).trans b5)).cut (stbS stb0) hp5 s6 m6 h6
    have l_a1 := cutV_le (lo := none) (hi := (some (w1))) l_d
    refine ⟨_, rfl, _, rfl, _, _, rfl, rfl, _, rfl, d, _, rfl, (g_d.but (stbS stb0) ((((b2.trans b3).trans b4).trans b5).trans b6)).sq, fun q6 H7 s7 m7 h7 => ?_⟩
    have b7 : But p H6 H7 := But.of s7
    have hp7 := hp6.same s7
    have g_a2 := (g_d.but (stbS stb0) ((((b2.trans b3).trans b4).trans b5).trans b6)).cut (stbS stb0) hp6 s7 m7 h7
    have l_a2 := cutV_le (lo := (some (w1 + 1))) (hi := none) l_d
    refine ⟨q5, q6, _, _, rfl, rfl, (g_a1.but (stbS stb0) b7).sq, g_a2.sq, len_ok (by have := l_a1; have := l_a2; omega), fun q7 H8 s8 m8 h8 => ?_⟩
    have b8 : But p H7 H8 := But.of s8
    have hp8 := hp7.same s8
    have g_e1 := Tx.cat (stbS stb0) (g_a1.but (stbS stb0) b7) g_a2 hp7 s8 m8 h8
    have l_e1 := cat_le l_a1 l_a2
    refine ⟨_, rfl, _, rfl, w1, rfl, d, _, rfl, (g_d.but (stbS stb0) ((((((b2.trans b3).trans b4).trans b5).trans b6).trans b7).trans b8)).sq, fun q8 H9 s9 m9 h9 => ?_⟩
    have b9 : But p H8 H9 := But.of s9
    have hp9 := hp8.same s9
    have g_a3 := (g_d.but (stbS stb0) ((((((b2.trans b3).trans b4).trans b5).trans b6).trans b7).trans b8)).cut (stbS stb0) hp8 s9 m9 h9
    have l_a3 := cutV_le (lo := none) (hi := (some (w1))) l_d
    refine ⟨_, rfl, by show 1 ≤ sizeLine; decide, fun q9 H10 s10 m10 h10 => ?_⟩
    have b10 : But p H9 H10 := But.of s10
    have hp10 := hp9.same s10
    have g_o1 : Tx K p (Stp K p) H10 q9 [y] _ := Tx.new (stbS stb0) (paired_one ((stbS stb0).but (((b6.trans b7).trans b8).trans b9) hy)) hp9 s10 m10 (FzT.sq h10)
    have l_o1 : List.length ([y] : List V) ≤ 1 := Nat.le_refl _
    refine ⟨q8, q9, _, _, rfl, rfl, (g_a3.but (stbS stb0) b10).sq, g_o1.sq, len_ok (by have := l_a3; have := l_o1; omega), fun q10 H11 s11 m11 h11 => ?_⟩
    have b11 : But p H10 H11 := But.of s11
    have hp11 := hp10.same s11
    have g_a4 := Tx.cat (stbS stb0) (g_a3.but (stbS stb0) b10) g_o1 hp10 s11 m11 h11
    have l_a4 := cat_le l_a3 l_o1
    refine ⟨_, rfl, _, rfl, w1, rfl, d, _, rfl, (g_d.but (stbS stb0) (((((((((b2.trans b3).trans b4).trans b5).trans b6).trans b7).trans b8).trans b9).trans b10).trans b11)).sq, fun q11 H12 s12 m12 h12 => ?_⟩
    have b12 : But p H11 H12 := But.of s12
    have hp12 := hp11.same s12
    have g_a5 := (g_d.but (stbS stb0) (((((((((b2.trans b3).trans b4).trans b5).trans b6).trans b7).trans b8).trans b9).trans b10).trans b11)).cut (stbS stb0) hp11 s12 m12 h12
    have l_a5 := cutV_le (lo := (some (w1))) (hi := none) l_d
    refine ⟨q10, q11, _, _, rfl, rfl, (g_a4.but (stbS stb0) b12).sq, g_a5.sq, len_ok (by have := l_a4; have := l_a5; omega), fun q12 H13 s13 m13 h13 => ?_⟩
    have b13 : But p H12 H13 := But.of s13
    have hp13 := hp12.same s13
    have g_e2 := Tx.cat (stbS stb0) (g_a4.but (stbS stb0) b12) g_a5 hp12 s13 m13 h13
    have l_e2 := cat_le l_a4 l_a5
    refine ⟨_, rfl, _, rfl, w1, rfl, d, _, rfl, (g_d.but (stbS stb0) (((((((((((b2.trans b3).trans b4).trans b5).trans b6).trans b7).trans b8).trans b9).trans b10).trans b11).trans b12).trans b13)).sq, fun q13 H14 s14 m14 h14 => ?_⟩
    have b14 : But p H13 H14 := But.of s14
    have hp14 := hp13.same s14
    have g_a6 := (g_d.but (stbS stb0) (((((((((((b2.trans b3).trans b4).trans b5).trans b6).trans b7).trans b8).trans b9).trans b10).trans b11).trans b12).trans b13)).cut (stbS stb0) hp13 s14 m14 h14
    have l_a6 := cutV_le (lo := none) (hi := (some (w1))) l_d
    refine ⟨_, rfl, _, rfl, _, _, rfl, rfl, _, rfl, _, rfl, _, _, rfl, rfl, _, rfl, d, _, rfl, (g_d.but (stbS stb0) ((((((((((((b2.trans b3).trans b4).trans b5).trans b6).trans b7).trans b8).trans b9).trans b10).trans b11).trans b12).trans b13).trans b14)).sq, fun q14 H15 s15 m15 h15 => ?_⟩
    have b15 : But p H14 H15 := But.of s15
    have hp15 := hp14.same s15
    have g_a7 := (g_d.but (stbS stb0) ((((((((((((b2.trans b3).trans b4).trans b5).trans b6).trans b7).trans b8).trans b9).trans b10).trans b11).trans b12).trans b13).trans b14)).cut (stbS stb0) hp14 s15 m15 h15
    have l_a7 := cutV_le (lo := (some (w1 + 1))) (hi := (some (w1 + 2))) l_d
    refine ⟨q13, q14, _, _, rfl, rfl, (g_a6.but (stbS stb0) b15).sq, g_a7.sq, len_ok (by have := l_a6; have := l_a7; omega), fun q15 H16 s16 m16 h16 => ?_⟩
    have b16 : But p H15 H16 := But.of s16
    have hp16 := hp15.same s16
    have g_a8 := Tx.cat (stbS stb0) (g_a6.but (stbS stb0) b15) g_a7 hp15 s16 m16 h16
    have l_a8 := cat_le l_a6 l_a7
    refine ⟨_, rfl, by show 1 ≤ sizeLine; decide, fun q16 H17 s17 m17 h17 => ?_⟩
    have b17 : But p H16 H17 := But.of s17
    have hp17 := hp16.same s17
    have g_o2 : Tx K p (Stp K p) H17 q16 [y] _ := Tx.new (stbS stb0) (paired_one ((stbS stb0).but ((((((((((b6.trans b7).trans b8).trans b9).trans b10).trans b11).trans b12).trans b13).trans b14).trans b15).trans b16) hy)) hp16 s17 m17 (FzT.sq h17)
    have l_o2 : List.length ([y] : List V) ≤ 1 := Nat.le_refl _
    refine ⟨q15, q16, _, _, rfl, rfl, (g_a8.but (stbS stb0) b17).sq, g_o2.sq, len_ok (by have := l_a8; have := l_o2; omega), fun q17 H18 s18 m18 h18 => ?_⟩
    have b18 : But p H17 H18 := But.of s18
    have hp18 := hp17.same s18
    have g_e3 := Tx.cat (stbS stb0) (g_a8.but (stbS stb0) b17) g_o2 hp17 s18 m18 h18
    have l_e3 := cat_le l_a8 l_o2
    refine ⟨by show 3 ≤ sizeLine; decide, fun q18 H19 s19 m19 h19 => ?_⟩
    have b19 : But p H18 H19 := But.of s19
    have hp19 := hp18.same s19
    refine ⟨_, rfl, _, rfl, _, rfl, w1, rfl, d, _, rfl, (g_d.but (stbS stb0) (((((((((((((((((b2.trans b3).trans b4).trans b5).trans b6).trans b7).trans b8).trans b9).trans b10).trans b11).trans b12).trans b13).trans b14).trans b15).trans b16).trans b17).trans b18).trans b19)).sq, fun q19 H20 s20 m20 h20 => ?_⟩
    have b20 : But p H19 H20 := But.of s20
    have hp20 := hp19.same s20
    have g_a9 := (g_d.but (stbS stb0) (((((((((((((((((b2.trans b3).trans b4).trans b5).trans b6).trans b7).trans b8).trans b9).trans b10).trans b11).trans b12).trans b13).trans b14).trans b15).trans b16).trans b17).trans b18).trans b19)).cut (stbS stb0) hp19 s20 m20 h20
    have l_a9 := cutV_le (lo := none) (hi := (some (w1))) l_d
    obtain ⟨ay, ys, ray, hay, ny01, hysf⟩ := stp_x ((stbS stb0).but ((((((((((((((b6.trans b7).trans b8).trans b9).trans b10).trans b11).trans b12).trans b13).trans b14).trans b15).trans b16).trans b17).trans b18).trans b19).trans b20) hy) ety
    subst ray
    have okys : StpOk ys := ⟨ny, ny01.1, ny01.2, hysf.elim (fun z => .inl z.2) (fun z => .inr z.2)⟩
    have npay : p ≠ ay := fun e => (stbS stb0).ne hy (by rw [e])
    refine ⟨_, rfl, _, rfl, p, ay, ys, _, rfl, hay, okys, npay, hp20, by omega, fun H21 xb b21 hp21 hxb => ?_⟩
    obtain ⟨rb, hxb⟩ := hxb
    refine ⟨by show 1 ≤ sizeLine; decide, fun q20 H22 s22 m22 h22 => ?_⟩
    have b22 : But p H21 H22 := But.of s22
    have hp22 := hp21.same s22
    have g_o3 : Tx K p (Stp K p) H22 q20 [xb] _ := Tx.new (stbS stb0) (paired_one hxb) hp21 s22 m22 (FzT.sq h22)
    have l_o3 : List.length ([xb] : List V) ≤ 1 := Nat.le_refl _
    refine ⟨q19, q20, _, _, rfl, rfl, (g_a9.but (stbS stb0) (b21.trans b22)).sq, g_o3.sq, len_ok (by have := l_a9; have := l_o3; omega), fun q21 H23 s23 m23 h23 => ?_⟩
    have b23 : But p H22 H23 := But.of s23
    have hp23 := hp22.same s23
    have g_a10 := Tx.cat (stbS stb0) (g_a9.but (stbS stb0) (b21.trans b22)) g_o3 hp22 s23 m23 h23
    have l_a10 := cat_le l_a9 l_o3
    refine ⟨_, rfl, _, rfl, _, _, rfl, rfl, _, rfl, d, _, rfl, (g_d.but (stbS stb0) (((((((((((((((((((((b2.trans b3).trans b4).trans b5).trans b6).trans b7).trans b8).trans b9).trans b10).trans b11).trans b12).trans b13).trans b14).trans b15).trans b16).trans b17).trans b18).trans b19).trans b20).trans b21).trans b22).trans b23)).sq, fun q22 H24 s24 m24 h24 => ?_⟩
    have b24 : But p H23 H24 := But.of s24
    have hp24 := hp23.same s24
    have g_a11 := (g_d.but (stbS stb0) (((((((((((((((((((((b2.trans b3).trans b4).trans b5).trans b6).trans b7).trans b8).trans b9).trans b10).trans b11).trans b12).trans b13).trans b14).trans b15).trans b16).trans b17).trans b18).trans b19).trans b20).trans b21).trans b22).trans b23)).cut (stbS stb0) hp23 s24 m24 h24
    have l_a11 := cutV_le (lo := (some (w1 + 1))) (hi := none) l_d
    refine ⟨q21, q22, _, _, rfl, rfl, (g_a10.but (stbS stb0) b24).sq, g_a11.sq, len_ok (by have := l_a10; have := l_a11; omega), fun q23 H25 s25 m25 h25 => ?_⟩
    have b25 : But p H24 H25 := But.of s25
    have hp25 := hp24.same s25
    have g_e4 := Tx.cat (stbS stb0) (g_a10.but (stbS stb0) b24) g_a11 hp24 s25 m25 h25
    have l_e4 := cat_le l_a10 l_a11
    refine ⟨_, rfl, d, xs, rfl, .inr (g_d.but (stbS stb0) (((((((((((((((((((((((b2.trans b3).trans b4).trans b5).trans b6).trans b7).trans b8).trans b9).trans b10).trans b11).trans b12).trans b13).trans b14).trans b15).trans b16).trans b17).trans b18).trans b19).trans b20).trans b21).trans b22).trans b23).trans b24).trans b25)).sq, fun q24 H26 s26 m26 h26 => ?_⟩
    have b26 : But p H25 H26 := But.of s26
    have hp26 := hp25.same s26
    refine ⟨_, rfl, p, _, rfl, hp26, by omega, fun H27 xo b27 hp27 hxo => ?_⟩
    obtain ⟨_, ⟨ro, hxo, bxo⟩, _⟩ := hxo
    refine ⟨_, rfl, d, 9, xs, rfl, rfl, (g_d.but (stbS stb0) (((((((((((((((((((((((((b2.trans b3).trans b4).trans b5).trans b6).trans b7).trans b8).trans b9).trans b10).trans b11).trans b12).trans b13).trans b14).trans b15).trans b16).trans b17).trans b18).trans b19).trans b20).trans b21).trans b22).trans b23).trans b24).trans b25).trans b26).trans b27)).sq, by decide, by decide, by omega, fun q25 H28 s28 m28 h28 => ?_⟩
    have b28 : But p H27 H28 := But.of s28
    have hp28 := hp27.same s28
    have g_rep : Tx K p (Stp K p) H28 q25 _ _ := ⟨m28.elim (fun e => e ▸ g_d.ne) (fun z => hp27.ne z), h28, paired_rep (g_d.but (stbS stb0) ((((((((((((((((((((((((((b2.trans b3).trans b4).trans b5).trans b6).trans b7).trans b8).trans b9).trans b10).trans b11).trans b12).trans b13).trans b14).trans b15).trans b16).trans b17).trans b18).trans b19).trans b20).trans b21).trans b22).trans b23).trans b24).trans b25).trans b26).trans b27).trans b28)).pr (9 : Int).toNat⟩
    have l_rep : (List.replicate (9 : Int).toNat xs).flatten.length ≤ 576 := by
      show (List.replicate 9 xs).flatten.length ≤ 576
      simp only [List.replicate, List.flatten_cons, List.flatten_nil, List.length_append, List.length_nil]
      omega
    refine ⟨by show 4 ≤ sizeLine; decide, fun q26 H29 s29 m29 h29 => ?_⟩
    have b29 : But p H28 H29 := But.of s29
    have hp29 := hp28.same s29
    refine ⟨q18, q26, _, _, rfl, rfl, (((((((((b20.trans b21).trans b22).trans b23).trans b24).trans b25).trans b26).trans b27).trans b28).trans b29) _ _ (hp18.ne m19).symm h19, h29, by show 3 + 4 ≤ sizeLine; decide, fun q27 H30 s30 m30 h30 => ?_⟩
    have b30 : But p H29 H30 := But.of s30
    have hp30 := hp29.same s30
    replace h30 : H30 q27 = some (HO.lst [.ref q7, .ref q12, .ref q17, .ref q23, .ref q24, xo, .ref q25]) := h30
    refine ⟨_, rfl, q27, _, 2, .ref q17, rfl, rfl, SqL.of h30, rfl, _, rfl, _, rfl, _, _, rfl, rfl, _, rfl, d, _, rfl, (g_d.but (stbS stb0) ((((((((((((((((((((((((((((b2.trans b3).trans b4).trans b5).trans b6).trans b7).trans b8).trans b9).trans b10).trans b11).trans b12).trans b13).trans b14).trans b15).trans b16).trans b17).trans b18).trans b19).trans b20).trans b21).trans b22).trans b23).trans b24).trans b25).trans b26).trans b27).trans b28).trans b29).trans b30)).sq, fun q28 H31 s31 m31 h31 => ?_⟩
    have b31 : But p H30 H31 := But.of s31
    have hp31 := hp30.same s31
    have g_a12 := (g_d.but (stbS stb0) ((((((((((((((((((((((((((((b2.trans b3).trans b4).trans b5).trans b6).trans b7).trans b8).trans b9).trans b10).trans b11).trans b12).trans b13).trans b14).trans b15).trans b16).trans b17).trans b18).trans b19).trans b20).trans b21).trans b22).trans b23).trans b24).trans b25).trans b26).trans b27).trans b28).trans b29).trans b30)).cut (stbS stb0) hp30 s31 m31 h31
    have l_a12 := cutV_le (lo := (some (w1 + 2))) (hi := none) l_d
    refine ⟨q17, q28, _, _, rfl, rfl, (g_e3.but (stbS stb0) ((((((((((((b19.trans b20).trans b21).trans b22).trans b23).trans b24).trans b25).trans b26).trans b27).trans b28).trans b29).trans b30).trans b31)).sq, g_a12.sq, len_ok (by have := l_e3; have := l_a12; omega), fun q29 H32 s32 m32 h32 => ?_⟩
    have b32 : But p H31 H32 := But.of s32
    have hp32 := hp31.same s32
    have g_e5 := Tx.cat (stbS stb0) (g_e3.but (stbS stb0) ((((((((((((b19.trans b20).trans b21).trans b22).trans b23).trans b24).trans b25).trans b26).trans b27).trans b28).trans b29).trans b30).trans b31)) g_a12 hp31 s32 m32 h32
    have l_e5 := cat_le l_e3 l_a12
    refine ⟨_, rfl, q27, _, _, 2, rfl, rfl, (b31.trans b32) _ _ (hp29.ne m30).symm h30, rfl, ?_⟩
    have bKF : But p H29 (upd H32 q27 (HO.lst ([V.ref q7, V.ref q12, V.ref q17, V.ref q23, V.ref q24, xo, V.ref q25].set 2 (V.ref q29)))) := fun b o nb e => by
      rw [upd_ne (ne_of_none e m30)]
      exact ((b30.trans b31).trans b32) b o nb e
    have kF : Keep H32 (upd H32 q27 (HO.lst ([V.ref q7, V.ref q12, V.ref q17, V.ref q23, V.ref q24, xo, V.ref q25].set 2 (V.ref q29)))) := (Keep.refl H32).upd fun u e => by
      rw [(b31.trans b32) _ _ (hp29.ne m30).symm h30] at e
      cases e
      rfl
    have hpF : PotOk (upd H32 q27 (HO.lst ([V.ref q7, V.ref q12, V.ref q17, V.ref q23, V.ref q24, xo, V.ref q25].set 2 (V.ref q29)))) p _ := hp32.put (hp29.ne m30)
    have hF : upd H32 q27 (HO.lst ([V.ref q7, V.ref q12, V.ref q17, V.ref q23, V.ref q24, xo, V.ref q25].set 2 (V.ref q29))) q27 = some (HO.lst ([V.ref q7, V.ref q12, V.ref q17, V.ref q23, V.ref q24, xo, V.ref q25].set 2 (V.ref q29))) := upd_same
    have e5p : Paired (Stp K p H29) _ _ := paired_app (g_e3.but (stbS stb0) ((((((((((b19.trans b20).trans b21).trans b22).trans b23).trans b24).trans b25).trans b26).trans b27).trans b28).trans b29)).pr (cut_paired (g_d.but (stbS stb0) (((((((((((((((((((((((((((b2.trans b3).trans b4).trans b5).trans b6).trans b7).trans b8).trans b9).trans b10).trans b11).trans b12).trans b13).trans b14).trans b15).trans b16).trans b17).trans b18).trans b19).trans b20).trans b21).trans b22).trans b23).trans b24).trans b25).trans b26).trans b27).trans b28).trans b29)).pr (some (w1 + 2)) none)
    have e5F := sqT_keep kF g_e5.sq
    generalize hHF : upd H32 q27 (HO.lst ([V.ref q7, V.ref q12, V.ref q17, V.ref q23, V.ref q24, xo, V.ref q25].set 2 (V.ref q29))) = H33 at bKF kF hpF hF e5F
    have hp33 := hpF
    have g_e6 : Tx K p (Stp K p) H33 q29 _ _ := ⟨g_e5.ne, e5F, paired_imp (fun _ _ r => (stbS stb0).but bKF r) e5p⟩
    refine ⟨_, rfl, _, rfl, d, xs, rfl, (g_d.but (stbS stb0) ((((((((((((((((((((((((((((b2.trans b3).trans b4).trans b5).trans b6).trans b7).trans b8).trans b9).trans b10).trans b11).trans b12).trans b13).trans b14).trans b15).trans b16).trans b17).trans b18).trans b19).trans b20).trans b21).trans b22).trans b23).trans b24).trans b25).trans b26).trans b27).trans b28).trans b29).trans bKF)).sq, fun q30 H34 s34 m34 h34 => ?_⟩
    have b34 : But p H33 H34 := But.of s34
    have hp34 := hp33.same s34
    have g_rev : Tx K p (Stp K p) H34 q30 _ _ := Tx.new (stbS stb0) (paired_rev (g_d.but (stbS stb0) ((((((((((((((((((((((((((((b2.trans b3).trans b4).trans b5).trans b6).trans b7).trans b8).trans b9).trans b10).trans b11).trans b12).trans b13).trans b14).trans b15).trans b16).trans b17).trans b18).trans b19).trans b20).trans b21).trans b22).trans b23).trans b24).trans b25).trans b26).trans b27).trans b28).trans b29).trans bKF)).pr) hp33 s34 m34 (FzT.sq h34)
    have l_rev : xs.reverse.length ≤ 64 := by rw [List.length_reverse]; exact l_d
    refine ⟨_, rfl, by show 3 ≤ sizeLine; decide, fun q31 H35 s35 m35 h35 => ?_⟩
    have b35 : But p H34 H35 := But.of s35
    have hp35 := hp34.same s35
    have g_t1 : Tx K p (L0 K p) H35 q31 [V.str "take", V.int 1, V.bl false] _ := Tx.new stb0 (l0_of rfl) hp34 s35 m35 (FzT.sq h35)
    have l_t1 : List.length ([V.str "take", V.int 1, V.bl false] : List V) ≤ 3 := Nat.le_refl _
    refine ⟨by show 2 ≤ sizeLine; decide, fun q32 H36 s36 m36 h36 => ?_⟩
    have b36 : But p H35 H36 := But.of s36
    have hp36 := hp35.same s36
    have g_t2 : Tx K p (L0 K p) H36 q32 [V.str "let", V.int 1] _ := Tx.new stb0 (l0_of rfl) hp35 s36 m36 (FzT.sq h36)
    have l_t2 : List.length ([V.str "let", V.int 1] : List V) ≤ 2 := Nat.le_refl _
    refine ⟨by show 2 ≤ sizeLine; decide, fun q33 H37 s37 m37 h37 => ?_⟩
    have b37 : But p H36 H37 := But.of s37
    have hp37 := hp36.same s37
    have g_t3 : Tx K p (Stp K p) H37 q33 [V.ref q31, V.ref q32] _ := Tx.new (stbS stb0) (.cons (Tx.lv (g_t1.but stb0 b36)) (paired_one g_t2.lv)) hp36 s37 m37 (FzT.sq h37)
    have l_t3 : List.length ([V.ref q31, V.ref q32] : List V) ≤ 2 := Nat.le_refl _
    refine ⟨d, q33, _, _, rfl, rfl, (g_d.but (stbS stb0) (((((((((((((((((((((((((((((b2.trans b3).trans b4).trans b5).trans b6).trans b7).trans b8).trans b9).trans b10).trans b11).trans b12).trans b13).trans b14).trans b15).trans b16).trans b17).trans b18).trans b19).trans b20).trans b21).trans b22).trans b23).trans b24).trans b25).trans b26).trans b27).trans b28).trans b29).trans bKF).trans (((b34.trans b35).trans b36).trans b37))).sq, g_t3.sq, len_ok (by have := l_d; have := l_t3; omega), fun q34 H38 s38 m38 h38 => ?_⟩
    have b38 : But p H37 H38 := But.of s38
    have hp38 := hp37.same s38
    have g_e7 := Tx.cat (stbS stb0) (g_d.but (stbS stb0) (((((((((((((((((((((((((((((b2.trans b3).trans b4).trans b5).trans b6).trans b7).trans b8).trans b9).trans b10).trans b11).trans b12).trans b13).trans b14).trans b15).trans b16).trans b17).trans b18).trans b19).trans b20).trans b21).trans b22).trans b23).trans b24).trans b25).trans b26).trans b27).trans b28).trans b29).trans bKF).trans (((b34.trans b35).trans b36).trans b37))) g_t3 hp37 s38 m38 h38
    have l_e7 := cat_le l_d l_t3
    refine ⟨by show 2 ≤ sizeLine; decide, fun q35 H39 s39 m39 h39 => ?_⟩
    have b39 : But p H38 H39 := But.of s39
    have hp39 := hp38.same s39
    refine ⟨q27, q35, _, _, rfl, rfl, (((((b34.trans b35).trans b36).trans b37).trans b38).trans b39) _ _ (hp29.ne m30).symm hF, h39, by show 7 + 2 ≤ sizeLine; decide, fun q36 H40 s40 m40 h40 => ?_⟩
    have b40 : But p H39 H40 := But.of s40
    have hp40 := hp39.same s40
    obtain ⟨L, hL, lL, tL⟩ : ∃ L, H40 q36 = some (HO.lst L) ∧ L.length = 9 ∧ ∀ y ∈ L, ∃ r, Pln K p H40 y r ∧ Bd2 r := ⟨_, h40, rfl, fun y hy => by
      replace hy : y ∈ [V.ref q7, V.ref q12, V.ref q29, V.ref q23, V.ref q24, xo, V.ref q25, V.ref q30, V.ref q34] := hy
      simp only [List.mem_cons, List.not_mem_nil, or_false] at hy
      rcases hy with rfl | rfl | rfl | rfl | rfl | rfl | rfl | rfl | rfl
      · exact ⟨_, Tx.lv (g_e1.but (stbS stb0) ((((((((((((((((((((((b9.trans b10).trans b11).trans b12).trans b13).trans b14).trans b15).trans b16).trans b17).trans b18).trans b19).trans b20).trans b21).trans b22).trans b23).trans b24).trans b25).trans b26).trans b27).trans b28).trans b29).trans bKF).trans ((((((b34.trans b35).trans b36).trans b37).trans b38).trans b39).trans b40))), Tx.bd (g_e1.but (stbS stb0) ((((((((((((((((((((((b9.trans b10).trans b11).trans b12).trans b13).trans b14).trans b15).trans b16).trans b17).trans b18).trans b19).trans b20).trans b21).trans b22).trans b23).trans b24).trans b25).trans b26).trans b27).trans b28).trans b29).trans bKF).trans ((((((b34.trans b35).trans b36).trans b37).trans b38).trans b39).trans b40))) (n := 1000) (by have := l_e1; omega) (by decide)⟩
      · exact ⟨_, Tx.lv (g_e2.but (stbS stb0) (((((((((((((((((b14.trans b15).trans b16).trans b17).trans b18).trans b19).trans b20).trans b21).trans b22).trans b23).trans b24).trans b25).trans b26).trans b27).trans b28).trans b29).trans bKF).trans ((((((b34.trans b35).trans b36).trans b37).trans b38).trans b39).trans b40))), Tx.bd (g_e2.but (stbS stb0) (((((((((((((((((b14.trans b15).trans b16).trans b17).trans b18).trans b19).trans b20).trans b21).trans b22).trans b23).trans b24).trans b25).trans b26).trans b27).trans b28).trans b29).trans bKF).trans ((((((b34.trans b35).trans b36).trans b37).trans b38).trans b39).trans b40))) (n := 1000) (by have := l_e2; omega) (by decide)⟩
      · exact ⟨_, Tx.lv (g_e6.but (stbS stb0) ((((((b34.trans b35).trans b36).trans b37).trans b38).trans b39).trans b40)), Tx.bd (g_e6.but (stbS stb0) ((((((b34.trans b35).trans b36).trans b37).trans b38).trans b39).trans b40)) (n := 1000) (by have := cat_le l_e3 l_a12; omega) (by decide)⟩
      · exact ⟨_, Tx.lv (g_e4.but (stbS stb0) (((((b26.trans b27).trans b28).trans b29).trans bKF).trans ((((((b34.trans b35).trans b36).trans b37).trans b38).trans b39).trans b40))), Tx.bd (g_e4.but (stbS stb0) (((((b26.trans b27).trans b28).trans b29).trans bKF).trans ((((((b34.trans b35).trans b36).trans b37).trans b38).trans b39).trans b40))) (n := 1000) (by have := l_e4; omega) (by decide)⟩
      · exact ⟨_, Lv.non (.inl ⟨q24, _, rfl, SqL.of (((((b27.trans b28).trans b29).trans bKF).trans ((((((b34.trans b35).trans b36).trans b37).trans b38).trans b39).trans b40)) _ _ (hp25.ne m26).symm h26)⟩) (ref_ne (hp25.ne m26)), nofun⟩
      · exact ⟨_, (stbS (stbS stb0)).but (((b28.trans b29).trans bKF).trans ((((((b34.trans b35).trans b36).trans b37).trans b38).trans b39).trans b40)) hxo, bxo⟩
      · exact ⟨_, Tx.lv (g_rep.but (stbS stb0) ((b29.trans bKF).trans ((((((b34.trans b35).trans b36).trans b37).trans b38).trans b39).trans b40))), Tx.bd (g_rep.but (stbS stb0) ((b29.trans bKF).trans ((((((b34.trans b35).trans b36).trans b37).trans b38).trans b39).trans b40))) (n := 1000) (by have := l_rep; omega) (by decide)⟩
      · exact ⟨_, Tx.lv (g_rev.but (stbS stb0) (((((b35.trans b36).trans b37).trans b38).trans b39).trans b40)), Tx.bd (g_rev.but (stbS stb0) (((((b35.trans b36).trans b37).trans b38).trans b39).trans b40)) (n := 1000) (by have := l_rev; omega) (by decide)⟩
      · exact ⟨_, Tx.lv (g_e7.but (stbS stb0) (b39.trans b40)), Tx.bd (g_e7.but (stbS stb0) (b39.trans b40)) (n := 1000) (by have := l_e7; omega) (by decide)⟩⟩
    refine ⟨_, rfl, p, 9, _, rfl, by decide, by decide, hp40, by omega, fun HZ wz bz hpz lz uz => ?_⟩
    obtain ⟨y9, hy9⟩ : ∃ y, L[wz.toNat]? = some y := ⟨L[wz.toNat]'(by omega), List.getElem?_eq_getElem _⟩
    obtain ⟨r, hr, br⟩ := tL y9 (List.mem_of_getElem? hy9)
    exact ⟨q36, L, _, y9, rfl, rfl, SqL.of (bz _ _ (hp39.ne m40).symm hL), HX.at_of (j := wz.toNat) hy9 (by omega), kq HZ y9 ((b1.trans (((((((((((((((((((((((((((((b2.trans b3).trans b4).trans b5).trans b6).trans b7).trans b8).trans b9).trans b10).trans b11).trans b12).trans b13).trans b14).trans b15).trans b16).trans b17).trans b18).trans b19).trans b20).trans b21).trans b22).trans b23).trans b24).trans b25).trans b26).trans b27).trans b28).trans b29).trans bKF).trans ((((((b34.trans b35).trans b36).trans b37).trans b38).trans b39).trans b40))).trans bz) (hpz.le (by omega)) ⟨r, (stbS (stbS stb0)).but bz hr, br⟩⟩
end
end K40

namespace K40
open PySem PySem.Spec PyProof.Rows L2 RZ HX TR RP EQT
theorem bd3_of {α : Type} {ps : List (Option (List α))} (h : ∀ o ∈ ps, Bd2 o) : Bd3 (some ps) := fun qs e => by
  cases e
  exact h
theorem mem_app {α : Type} {C : α → Prop} {a b : List α} (h : ∀ o ∈ a, C o) (g : ∀ o ∈ b, C o) : ∀ o ∈ a ++ b, C o := fun o ho => (List.mem_append.mp ho).elim (h o) (g o)
theorem mem_rep {α : Type} {xs : List α} {x : α} {n : Nat} (h : x ∈ (List.replicate n xs).flatten) : x ∈ xs := by
  obtain ⟨l, hl, hx⟩ := List.mem_flatten.mp h
  rw [(List.mem_replicate.mp hl).2] at hx
  exact hx
section
variable {P : Program} {w : World} {K : PySem.W.Frag} {mg : Str → Option Value} {base : Heap}
def sp_law_bent (K : PySem.W.Frag) : Sp := fun vs H Q _ => ∃ (p d : Addr) (xs : List V) (ps : List (Option (List (Option (List V))))) (B : Int), vs = [.ref p, .ref d] ∧ Tx K p (Pln K p) H d xs ps ∧ GoodPs ps ∧ PotOk H p B ∧ B < 2 ^ 35 ∧
  ∀ (H' : Hp) (x : V), But p H H' → PotOk H' p (B + 50) → (∃ r, Pls K p H' x r ∧ Bd3 r) → Q x H'
theorem ok_law_bent (T : TX K mg) : FnOk P w K mg base CX0 5 (He.ga K "_law_bent") T.fd_law_bent ["pot", "plans"] (sp_law_bent K) := by
  have G_law_take : FnOk P w K mg base CX0 1 (He.ga K "_law_take") T.fd_law_take ["pot", "many"] sp_law_take := ok_law_take T
  have b_law_take := b_law_take T
  have G_law_odd : FnOk P w K mg base CX0 2 (He.ga K "_law_odd") T.fd_law_odd ["pot"] (sp_law_odd K) := ok_law_odd T
  have b_law_odd := b_law_odd T
  have G_law_bent_plan : FnOk P w K mg base CX0 4 (He.ga K "_law_bent_plan") T.fd_law_bent_plan ["pot", "plan"] (sp_law_bent_plan K) := ok_law_bent_plan T
  have b_law_bent_plan := b_law_bent_plan T
  refine T.F_law_bent.ok sc_law_bent (fun vs H Q E h => ?_) (fun cdv A outer st H vs Q E hr h => ?_)
  · obtain ⟨p, d, xs, ps, B, rfl, _⟩ := h
    rfl
  · obtain ⟨p, d, xs, ps, B, rfl, hT, ⟨h1p, h4p, hgp⟩, hp, hB, kq⟩ := h
    refine ⟨_, PSs.nox (pss_cons (ps_set (i := 2) sc_law_bent.nd rfl (Or.inl rfl) (pe_call G_law_take (hr.mono (by first | decide | omega)) rfl T.g_law_take T.F_law_take.kp b_law_take .nil pass0 (pa_cons (pv 0) (pa_cons (pe_callB call_len_seq rfl T.n_len PySem.boot_len (pa_cons (pv 1) pa_nil)) pa_nil))))
 (pss_cons (ps_set (i := 3) sc_law_bent.nd rfl (Or.inl rfl) (pe_call G_law_bent_plan (hr.mono (by first | decide | omega)) rfl T.g_law_bent_plan T.F_law_bent_plan.kp b_law_bent_plan .nil pass0 (pa_cons (pv 0) (pa_cons (pe_ix ix_tup (pv 1) (pv 2) (fun _ _ => rfl)) pa_nil))))
 (pss_cons (ps_set (i := 4) sc_law_bent.nd rfl (Or.inl rfl) (RU.pe_lstS (pa_cons (pe_op EQT.op_catTN (pe_slice EQT.sl_tupN (pv 1) po_none (po_some (pv 2))) (pe_slice EQT.sl_tupN (pv 1) (po_some (pe_op op_add (pv 2) pe_int)) po_none)) (pa_cons (pe_op EQT.op_catTN (pv 1) (pe_op EQT.op_repTS (pe_slice EQT.sl_tupN (pv 1) po_none (po_some pe_int)) (pe_op op_sub pe_int (pe_callB call_len_seq rfl T.n_len PySem.boot_len (pa_cons (pv 1) pa_nil))))) (pa_cons (pe_callTy RU.call_lstS rfl T.n_list (by decide +kernel) (pa_cons (pv 1) pa_nil)) (pa_cons (pe_call G_law_odd (hr.mono (by first | decide | omega)) rfl T.g_law_odd T.F_law_odd.kp b_law_odd .nil pass0 (pa_cons (pv 0) pa_nil)) pa_nil))))))
 (pss_cons (ps_set (i := 4) sc_law_bent.nd rfl (Or.inl rfl) (pe_op RU.op_catLS (pv 4) (pe_op op_rep (RU.pe_lstS (pa_cons (pe_op EQT.op_catTN (pe_op EQT.op_catTN (pe_slice EQT.sl_tupN (pv 1) po_none (po_some (pv 2))) (RU.pe_tupS (pa_cons (pv 3) pa_nil))) (pe_slice EQT.sl_tupN (pv 1) (po_some (pe_op op_add (pv 2) pe_int)) po_none)) pa_nil)) pe_int)))
 (pss_one (ps_ret (pe_ix ix_list (pv 4) (pe_call G_law_take (hr.mono (by first | decide | omega)) rfl T.g_law_take T.F_law_take.kp b_law_take .nil pass0 (pa_cons (pv 0) (pa_cons pe_int pa_nil))) (fun _ _ => rfl)))))))), ?_⟩
    have hlen := hT.pr.length
    have l_d : xs.length ≤ 4 := by omega
    have bd0 : ∀ o ∈ ps, Bd2 o := fun o ho ss e => by
      obtain ⟨ss', e', h⟩ := hgp o ho
      rw [e'] at e
      cases e
      exact Nat.le_trans h.1 (by decide)
    refine ⟨_, rfl, _, rfl, d, xs, rfl, .inr hT.sq, p, (xs.length : Int), B, rfl, by omega, by omega, hp, by omega, fun H1 w1 b1 hp1 l1 u1 => ?_⟩
    have g_d1 : Tx K p (Pln K p) H1 d xs ps := hT.but (stbS (stbS stb0)) b1
    obtain ⟨v, hv⟩ : ∃ v, xs[w1.toNat]? = some v := ⟨xs[w1.toNat]'(by omega), List.getElem?_eq_getElem _⟩
    obtain ⟨o, ho, hvo⟩ := pget1 g_d1.pr hv
    obtain ⟨ss, rfl, hss⟩ := hgp o (List.mem_of_getElem? ho)
    obtain ⟨vne, hvo⟩ := hvo
    obtain ⟨da, xa, sa, rfl, ha, hpa, esa⟩ : ∃ a xs rs, v = .ref a ∧ SqT K H1 a xs ∧ Paired (Stp K p H1) xs rs ∧ some ss = some rs := by
      rcases hvo with h | ⟨_, e⟩
      · exact h
      · cases e
    cases esa
    refine ⟨_, rfl, _, rfl, _, rfl, d, xs, w1, .ref da, rfl, rfl, g_d1.sq, HX.at_of (j := w1.toNat) hv (by omega), p, da, xa, ss, _, rfl, ⟨fun e => vne (by rw [e]), ha, hpa⟩, hss, hp1, by omega, fun H2 xp b2 hp2 hxp => ?_⟩
    obtain ⟨rp, hxp, bxp⟩ := hxp
    have g_d : Tx K p (Pln K p) H2 d xs ps := g_d1.but (stbS (stbS stb0)) b2
    refine ⟨_, rfl, _, rfl, w1, rfl, d, _, rfl, g_d.sq, fun q1 H3 s3 m3 h3 => ?_⟩
    have b3 : But p H2 H3 := But.of s3
    have hp3 := hp2.same s3
    have g_a1 := g_d.cut (stbS (stbS stb0)) hp2 s3 m3 h3
    have l_a1 := cutV_le (lo := none) (hi := (some (w1))) l_d
    refine ⟨_, rfl, _, rfl, _, _, rfl, rfl, _, rfl, d, _, rfl, (g_d.but (stbS (stbS stb0)) b3).sq, fun q2 H4 s4 m4 h4 => ?_⟩
    have b4 : But p H3 H4 := But.of s4
    have hp4 := hp3.same s4
    have g_a2 := (g_d.but (stbS (stbS stb0)) b3).cut (stbS (stbS stb0)) hp3 s4 m4 h4
    have l_a2 := cutV_le (lo := (some (w1 + 1))) (hi := none) l_d
    refine ⟨q1, q2, _, _, rfl, rfl, (g_a1.but (stbS (stbS stb0)) b4).sq, g_a2.sq, len_ok (by have := l_a1; have := l_a2; omega), fun q3 H5 s5 m5 h5 => ?_⟩
    have b5 : But p H4 H5 := But.of s5
    have hp5 := hp4.same s5
    have g_e1 := Tx.cat (stbS (stbS stb0)) (g_a1.but (stbS (stbS stb0)) b4) g_a2 hp4 s5 m5 h5
    have l_e1 := cat_le l_a1 l_a2
    refine ⟨_, rfl, _, rfl, 1, rfl, d, _, rfl, (g_d.but (stbS (stbS stb0)) ((b3.trans b4).trans b5)).sq, fun q4 H6 s6 m6 h6 => ?_⟩
    have b6 : But p H5 H6 := But.of s6
    have hp6 := hp5.same s6
    have g_a3 := (g_d.but (stbS (stbS stb0)) ((b3.trans b4).trans b5)).cut (stbS (stbS stb0)) hp5 s6 m6 h6
    have l_a3 := cutV_le (lo := none) (hi := (some (1))) l_d
    refine ⟨_, rfl, d, _, rfl, .inr (g_d.but (stbS (stbS stb0)) (((b3.trans b4).trans b5).trans b6)).sq, _, _, rfl, rfl, q4, _, _, rfl, rfl, g_a3.sq, by omega, by omega, by have := l_a3; omega, fun q5 H7 s7 m7 h7 => ?_⟩
    have b7 : But p H6 H7 := But.of s7
    have hp7 := hp6.same s7
    have g_rep : Tx K p (Pln K p) H7 q5 _ _ := ⟨m7.elim (fun e => e ▸ g_a3.ne) (fun z => hp6.ne z), h7, paired_rep (g_a3.but (stbS (stbS stb0)) b7).pr (5 - (xs.length : Int)).toNat⟩
    have l_rep : (List.replicate (5 - (xs.length : Int)).toNat (cutV xs none (some 1))).flatten.length ≤ 20 := by
      rw [PyProof.Rows.lm_len_rep_flat]
      exact Nat.le_trans (Nat.mul_le_mul (by omega : _ ≤ 5) l_a3) (by decide)
    refine ⟨d, q5, _, _, rfl, rfl, (g_d.but (stbS (stbS stb0)) ((((b3.trans b4).trans b5).trans b6).trans b7)).sq, g_rep.sq, len_ok (by have := l_d; have := l_rep; omega), fun q6 H8 s8 m8 h8 => ?_⟩
    have b8 : But p H7 H8 := But.of s8
    have hp8 := hp7.same s8
    have g_e2 := Tx.cat (stbS (stbS stb0)) (g_d.but (stbS (stbS stb0)) ((((b3.trans b4).trans b5).trans b6).trans b7)) g_rep hp7 s8 m8 h8
    have l_e2 := cat_le l_d l_rep
    refine ⟨_, rfl, d, xs, rfl, .inr (g_d.but (stbS (stbS stb0)) (((((b3.trans b4).trans b5).trans b6).trans b7).trans b8)).sq, fun q7 H9 s9 m9 h9 => ?_⟩
    have b9 : But p H8 H9 := But.of s9
    have hp9 := hp8.same s9
    refine ⟨_, rfl, p, _, rfl, hp9, by omega, fun H10 xo b10 hp10 hxo => ?_⟩
    obtain ⟨_, _, ro, hxo, bxo⟩ := hxo
    refine ⟨by show 4 ≤ sizeLine; decide, fun q8 H11 s11 m11 h11 => ?_⟩
    have b11 : But p H10 H11 := But.of s11
    have hp11 := hp10.same s11
    refine ⟨_, rfl, _, rfl, _, rfl, w1, rfl, d, _, rfl, (g_d.but (stbS (stbS stb0)) ((((((((b3.trans b4).trans b5).trans b6).trans b7).trans b8).trans b9).trans b10).trans b11)).sq, fun q9 H12 s12 m12 h12 => ?_⟩
    have b12 : But p H11 H12 := But.of s12
    have hp12 := hp11.same s12
    have g_a5 := (g_d.but (stbS (stbS stb0)) ((((((((b3.trans b4).trans b5).trans b6).trans b7).trans b8).trans b9).trans b10).trans b11)).cut (stbS (stbS stb0)) hp11 s12 m12 h12
    have l_a5 := cutV_le (lo := none) (hi := (some (w1))) l_d
    refine ⟨_, rfl, by show 1 ≤ sizeLine; decide, fun q10 H13 s13 m13 h13 => ?_⟩
    have b13 : But p H12 H13 := But.of s13
    have hp13 := hp12.same s13
    have g_o1 : Tx K p (Pln K p) H13 q10 [xp] _ := Tx.new (stbS (stbS stb0)) (paired_one ((stbS (stbS stb0)).but (((((((((b3.trans b4).trans b5).trans b6).trans b7).trans b8).trans b9).trans b10).trans b11).trans b12) hxp)) hp12 s13 m13 (FzT.sq h13)
    have l_o1 : List.length ([xp] : List V) ≤ 1 := Nat.le_refl _
    refine ⟨q9, q10, _, _, rfl, rfl, (g_a5.but (stbS (stbS stb0)) b13).sq, g_o1.sq, len_ok (by have := l_a5; have := l_o1; omega), fun q11 H14 s14 m14 h14 => ?_⟩
    have b14 : But p H13 H14 := But.of s14
    have hp14 := hp13.same s14
    have g_a6 := Tx.cat (stbS (stbS stb0)) (g_a5.but (stbS (stbS stb0)) b13) g_o1 hp13 s14 m14 h14
    have l_a6 := cat_le l_a5 l_o1
    refine ⟨_, rfl, _, rfl, _, _, rfl, rfl, _, rfl, d, _, rfl, (g_d.but (stbS (stbS stb0)) (((((((((((b3.trans b4).trans b5).trans b6).trans b7).trans b8).trans b9).trans b10).trans b11).trans b12).trans b13).trans b14)).sq, fun q12 H15 s15 m15 h15 => ?_⟩
    have b15 : But p H14 H15 := But.of s15
    have hp15 := hp14.same s15
    have g_a7 := (g_d.but (stbS (stbS stb0)) (((((((((((b3.trans b4).trans b5).trans b6).trans b7).trans b8).trans b9).trans b10).trans b11).trans b12).trans b13).trans b14)).cut (stbS (stbS stb0)) hp14 s15 m15 h15
    have l_a7 := cutV_le (lo := (some (w1 + 1))) (hi := none) l_d
    refine ⟨q11, q12, _, _, rfl, rfl, (g_a6.but (stbS (stbS stb0)) b15).sq, g_a7.sq, len_ok (by have := l_a6; have := l_a7; omega), fun q13 H16 s16 m16 h16 => ?_⟩
    have b16 : But p H15 H16 := But.of s16
    have hp16 := hp15.same s16
    have g_e3 := Tx.cat (stbS (stbS stb0)) (g_a6.but (stbS (stbS stb0)) b15) g_a7 hp15 s16 m16 h16
    have l_e3 := cat_le l_a6 l_a7
    refine ⟨by show 1 ≤ sizeLine; decide, fun q14 H17 s17 m17 h17 => ?_⟩
    have b17 : But p H16 H17 := But.of s17
    have hp17 := hp16.same s17
    refine ⟨q14, 6, _, rfl, rfl, h17, by decide, by decide, by show 1 * 6 ≤ sizeLine; decide, fun lr m18 => ?_⟩
    have s18 : Same H17 (upd H17 lr (HO.lst (List.replicate (6 : Int).toNat [V.ref q13]).flatten)) := same_new m18
    have h18 : upd H17 lr (HO.lst (List.replicate (6 : Int).toNat [V.ref q13]).flatten) lr = some (HO.lst (List.replicate (6 : Int).toNat [V.ref q13]).flatten) := upd_same
    generalize upd H17 lr (HO.lst (List.replicate (6 : Int).toNat [V.ref q13]).flatten) = H18 at s18 h18
    have b18 : But p H17 H18 := But.of s18
    have hp18 := hp17.same s18
    refine ⟨q8, lr, _, _, rfl, rfl, ((((((b12.trans b13).trans b14).trans b15).trans b16).trans b17).trans b18) _ _ (hp10.ne m11).symm h11, h18, by show 4 + 6 ≤ sizeLine; decide, fun q15 H19 s19 m19 h19 => ?_⟩
    have b19 : But p H18 H19 := But.of s19
    have hp19 := hp18.same s19
    obtain ⟨L, hL, lL, tL⟩ : ∃ L, H19 q15 = some (HO.lst L) ∧ L.length = 10 ∧ ∀ y ∈ L, ∃ r, Pls K p H19 y r ∧ Bd3 r := ⟨_, h19, rfl, fun y hy => by
      replace hy : y ∈ [V.ref q3, V.ref q6, V.ref q7, xo, V.ref q13, V.ref q13, V.ref q13, V.ref q13, V.ref q13, V.ref q13] := hy
      have hy2 : y = V.ref q3 ∨ y = V.ref q6 ∨ y = V.ref q7 ∨ y = xo ∨ y = V.ref q13 := by
        simp only [List.mem_cons, List.not_mem_nil, or_false] at hy
        rcases hy with h | h | h | h | h | h | h | h | h | h
        · exact .inl h
        · exact .inr (.inl h)
        · exact .inr (.inr (.inl h))
        · exact .inr (.inr (.inr (.inl h)))
        · exact .inr (.inr (.inr (.inr h)))
        · exact .inr (.inr (.inr (.inr h)))
        · exact .inr (.inr (.inr (.inr h)))
        · exact .inr (.inr (.inr (.inr h)))
        · exact .inr (.inr (.inr (.inr h)))
        · exact .inr (.inr (.inr (.inr h)))
      rcases hy2 with rfl | rfl | rfl | rfl | rfl
      · exact ⟨_, Tx.lv (g_e1.but (stbS (stbS stb0)) (((((((((((((b6.trans b7).trans b8).trans b9).trans b10).trans b11).trans b12).trans b13).trans b14).trans b15).trans b16).trans b17).trans b18).trans b19)), bd3_of (mem_app (fun o ho => bd0 o (cutA_mem ho)) (fun o ho => bd0 o (cutA_mem ho)))⟩
      · exact ⟨_, Tx.lv (g_e2.but (stbS (stbS stb0)) ((((((((((b9.trans b10).trans b11).trans b12).trans b13).trans b14).trans b15).trans b16).trans b17).trans b18).trans b19)), bd3_of (mem_app bd0 (fun o ho => (fun z => bd0 o (cutA_mem z)) (mem_rep ho)))⟩
      · exact ⟨_, Lv.non (.inl ⟨q7, _, rfl, SqL.of ((((((((((b10.trans b11).trans b12).trans b13).trans b14).trans b15).trans b16).trans b17).trans b18).trans b19) _ _ (hp8.ne m9).symm h9)⟩) (ref_ne (hp8.ne m9)), nofun⟩
      · exact ⟨_, (stbS (stbS (stbS stb0))).but ((((((((b11.trans b12).trans b13).trans b14).trans b15).trans b16).trans b17).trans b18).trans b19) hxo, bxo⟩
      · exact ⟨_, Tx.lv (g_e3.but (stbS (stbS stb0)) ((b17.trans b18).trans b19)), bd3_of (mem_app (mem_app (fun o ho => bd0 o (cutA_mem ho)) (fun o ho => (List.mem_singleton.mp ho) ▸ bxp)) (fun o ho => bd0 o (cutA_mem ho)))⟩⟩
    refine ⟨_, rfl, _, rfl, p, 10, _, rfl, by decide, by decide, hp19, by omega, fun HZ wz bz hpz lz uz => ?_⟩
    obtain ⟨y9, hy9⟩ : ∃ y, L[wz.toNat]? = some y := ⟨L[wz.toNat]'(by omega), List.getElem?_eq_getElem _⟩
    obtain ⟨r, hr, br⟩ := tL y9 (List.mem_of_getElem? hy9)
    exact ⟨q15, L, _, y9, rfl, rfl, SqL.of (bz _ _ (hp18.ne m19).symm hL), HX.at_of (j := wz.toNat) hy9 (by omega), kq HZ y9 ((((b1.trans b2).trans ((((((((((((((((b3.trans b4).trans b5).trans b6).trans b7).trans b8).trans b9).trans b10).trans b11).trans b12).trans b13).trans b14).trans b15).trans b16).trans b17).trans b18).trans b19))).trans bz) (hpz.le (by omega)) ⟨r, (stbS (stbS (stbS stb0))).but bz hr, br⟩⟩
end
end K40

namespace K40
open PySem PySem.Spec PyProof.Rows L2 RZ HX TR RP EQT
/-- lists may change, the rest stays -/
def Lch (H H' : Hp) : Prop := ∀ b o, H b = some o → H' b = some o ∨ ((∃ xs, o = .lst xs) ∧ ∃ ys, H' b = some (.lst ys))
theorem Lch.of {H H' : Hp} (s : Same H H') : Lch H H' := fun b o e => .inl (s b o e)
theorem Lch.upd {H : Hp} {a : Addr} {xs ys : List V} (h : H a = some (.lst xs)) : Lch H (upd H a (.lst ys)) := fun b o e => by
  by_cases c : b = a
  · subst c
    rw [h] at e
    cases e
    exact .inr ⟨⟨_, rfl⟩, ys, upd_same⟩
  · exact .inl (by rw [upd_ne c]; exact e)
theorem Lch.but {H H' : Hp} {p : Addr} {B B' : Int} (hp : PotOk H p B) (hp' : PotOk H' p B') (b : But p H H') : Lch H H' := fun c o e => by
  by_cases n : c = p
  · subst n
    obtain ⟨x, y, z, h, _⟩ := hp
    obtain ⟨x', y', z', h', _⟩ := hp'
    rw [h] at e
    cases e
    exact .inr ⟨⟨_, rfl⟩, _, h'⟩
  · exact .inl (b c o n e)
theorem Lch.trans {H H1 H2 : Hp} (a : Lch H H1) (b : Lch H1 H2) : Lch H H2 := fun c o e => by
  rcases a c o e with h | ⟨⟨xs, rfl⟩, ys, h⟩
  · exact b c o h
  · rcases b c _ h with h2 | ⟨_, zs, h2⟩
    · exact .inr ⟨⟨xs, rfl⟩, ys, h2⟩
    · exact .inr ⟨⟨xs, rfl⟩, zs, h2⟩
theorem Lch.tup {K : PySem.W.Frag} {H H' : Hp} {a : Addr} {xs : List V} (k : Lch H H') (h : SqT K H a xs) : SqT K H' a xs := by
  rcases h with (h | ⟨o, h⟩) | h
  · rcases k _ _ h with h | ⟨⟨_, e⟩, _⟩
    · exact .inl (.inl h)
    · cases e
  · rcases k _ _ h with h | ⟨⟨_, e⟩, _⟩
    · exact .inl (.inr ⟨o, h⟩)
    · cases e
  · exact .inr h
theorem Lch.lst {K : PySem.W.Frag} {H H' : Hp} {a : Addr} {xs : List V} (k : Lch H H') (h : SqL K H a xs) : ∃ ys, SqL K H' a ys := by
  rcases h with (h | ⟨o, h⟩) | h
  · rcases k _ _ h with h | ⟨_, ys, h⟩
    · exact ⟨_, .inl (.inl h)⟩
    · exact ⟨_, .inl (.inl h)⟩
  · rcases k _ _ h with h | ⟨⟨_, e⟩, _⟩
    · exact ⟨_, .inl (.inr ⟨o, h⟩)⟩
    · cases e
  · exact ⟨_, .inr h⟩
theorem Lch.ntup {K : PySem.W.Frag} {H H' : Hp} {x : V} (k : Lch H H') (h : NTup K H x) : NTup K H' x := by
  rcases h with ⟨a, xs, e, ha⟩ | ⟨a, kvs, e, ha⟩ | hs
  · obtain ⟨ys, h⟩ := k.lst ha
    exact .inl ⟨a, ys, e, h⟩
  · rcases k _ _ ha with h | ⟨⟨_, e⟩, _⟩
    · exact .inr (.inl ⟨a, kvs, by assumption, h⟩)
    · cases e
  · exact .inr (.inr hs)
theorem Lch.thg {K : PySem.W.Frag} {H H' : Hp} {x : V} (k : Lch H H') (h : Thg K H x) : Thg K H' x := by
  rcases h with ⟨a, xs, e, ha⟩ | ⟨a, xs, e, ha⟩ | ⟨a, kvs, e, ha⟩ | hs
  · obtain ⟨ys, h⟩ := k.lst ha
    exact .inl ⟨a, ys, e, h⟩
  · exact .inr (.inl ⟨a, xs, e, k.tup ha⟩)
  · rcases k _ _ ha with h | ⟨⟨_, e⟩, _⟩
    · exact .inr (.inr (.inl ⟨a, kvs, by assumption, h⟩))
    · cases e
  · exact .inr (.inr (.inr hs))
theorem Lch.l0 {K : PySem.W.Frag} {H H' : Hp} {p : Addr} {x v : V} (k : Lch H H') (h : L0 K p H x v) : L0 K p H' x v := ⟨h.1, k.thg h.2.1, h.2.2⟩
theorem Lch.lv {α : Type} {K : PySem.W.Frag} {p : Addr} {R : Hp → V → α → Prop} {H H' : Hp} (k : Lch H H') (s : ∀ x r, R H x r → R H' x r) {x : V} {r : Option (List α)} (h : Lv K p R H x r) : Lv K p R H' x r := by
  obtain ⟨ne, h⟩ := h
  refine ⟨ne, ?_⟩
  rcases h with ⟨a, xs, rs, e, ha, hx, er⟩ | ⟨h, er⟩
  · exact .inl ⟨a, xs, rs, e, k.tup ha, paired_imp (fun _ _ r => s _ _ r) hx, er⟩
  · exact .inr ⟨k.ntup h, er⟩
theorem Lch.pls {K : PySem.W.Frag} {p : Addr} {H H' : Hp} (k : Lch H H') {x : V} {r : Option (List (Option (List (Option (List V)))))} (h : Pls K p H x r) : Pls K p H' x r := k.lv (fun _ _ h => k.lv (fun _ _ h => k.lv (fun _ _ h => k.l0 h) h) h) h
theorem plans_good {r : Option (List (Option (List (Option (List V)))))} (h : pp1 r = true) : ∃ ps, r = some ps ∧ GoodPs ps := by
  cases r with
  | none => cases h
  | some ps =>
    refine ⟨ps, rfl, ?_⟩
    have z : ((decide (1 ≤ ps.length) && decide (ps.length ≤ 4)) && ps.all pl1) = true := h
    obtain ⟨z1, z2⟩ := Bool.and_eq_true_iff.mp z
    obtain ⟨z3, z4⟩ := Bool.and_eq_true_iff.mp z1
    refine ⟨of_decide_eq_true z3, of_decide_eq_true z4, fun o ho => ?_⟩
    have y := List.all_eq_true.mp z2 o ho
    cases o with
    | none => cases y
    | some ss =>
      refine ⟨ss, rfl, ?_⟩
      have y' : (decide (ss.length ≤ 16) && (ss.all (fun s => (st1 s).isSome) && runP [] (ss.filterMap st1))) = true := y
      obtain ⟨y1, y2⟩ := Bool.and_eq_true_iff.mp y'
      obtain ⟨y3, _⟩ := Bool.and_eq_true_iff.mp y2
      exact ⟨Nat.le_trans (of_decide_eq_true y1) (by decide), fun s hs => List.all_eq_true.mp y3 s hs⟩
/-- the things so far -/
structure Thgs (K : PySem.W.Frag) (p : Addr) (H0 H : Hp) (t : Addr) (B : Int) (n : Nat) : Prop where
  same : Same H0 H
  pot : PotOk H p B
  lst : ∃ xs, H t = some (.lst xs) ∧ xs.length ≤ n ∧ ∀ x ∈ xs, ∃ r, Pls K p H x r ∧ Bd3 r
  nt : H0 t = none
  np : H0 p = none
  pt : p ≠ t
theorem Thgs.go {K : PySem.W.Frag} {p : Addr} {H0 H H' : Hp} {t : Addr} {B B' : Int} {n : Nat} (I : Thgs K p H0 H t B n) (b : But p H H') (hp : PotOk H' p B') : Thgs K p H0 H' t B' n := by
  obtain ⟨xs, h1, h2, h3⟩ := I.lst
  refine ⟨fun c o e => b _ _ (ne_of_none e I.np) (I.same c o e), hp, ⟨xs, b _ _ I.pt.symm h1, h2, fun x hx => ?_⟩, I.nt, I.np, I.pt⟩
  obtain ⟨r, hr, br⟩ := h3 x hx
  exact ⟨r, (Lch.but I.pot hp b).pls hr, br⟩
theorem Thgs.more {K : PySem.W.Frag} {p : Addr} {H0 H : Hp} {t : Addr} {B : Int} {n : Nat} (I : Thgs K p H0 H t B n) {xs : List V} {x : V} (h : H t = some (.lst xs)) (hx : ∃ r, Pls K p H x r ∧ Bd3 r) : Thgs K p H0 (upd H t (.lst (xs ++ [x]))) t B (n + 1) := by
  obtain ⟨xs', h1, h2, h3⟩ := I.lst
  obtain rfl : xs' = xs := by
    rw [h] at h1
    injection h1 with z
    injection z with z
    exact z.symm
  have k : Lch H (upd H t (.lst (xs' ++ [x]))) := Lch.upd h
  refine ⟨fun c o e => ?_, I.pot.put I.pt, ⟨xs' ++ [x], upd_same, ?_, fun y hy => ?_⟩, I.nt, I.np, I.pt⟩
  · rw [upd_ne (ne_of_none e I.nt)]
    exact I.same c o e
  · rw [List.length_append, List.length_singleton]
    omega
  · rcases List.mem_append.mp hy with hy | hy
    · obtain ⟨r, hr, br⟩ := h3 y hy
      exact ⟨r, k.pls hr, br⟩
    · obtain rfl := List.mem_singleton.mp hy
      obtain ⟨r, hr, br⟩ := hx
      exact ⟨r, k.pls hr, br⟩
section
variable {P : Program} {w : World} {K : PySem.W.Frag} {mg : Str → Option Value} {base : Heap}
def sp_law (K : PySem.W.Frag) : Sp := fun vs H Q _ => ∃ (a : Addr) (ns : List Int), vs = [.ref a] ∧ SqL K H a (ns.map V.int) ∧ ns.length ≤ 63 ∧ ∀ H', Q (.bl true) H'
theorem ok_law (T : TX K mg) : FnOk P w K mg base CX0 6 (He.ga K "law") T.fd_law ["script"] (sp_law K) := by
  have G_law_pot : FnOk P w K mg base CX0 1 (He.ga K "_law_pot") T.fd_law_pot ["script", "k"] (sp_law_pot K) := ok_law_pot T
  have b_law_pot := b_law_pot T
  have G_law_take : FnOk P w K mg base CX0 1 (He.ga K "_law_take") T.fd_law_take ["pot", "many"] sp_law_take := ok_law_take T
  have b_law_take := b_law_take T
  have G_law_plans : FnOk P w K mg base CX0 3 (He.ga K "_law_plans") T.fd_law_plans ["pot", "most", "ordered"] (sp_law_plans K) := ok_law_plans T
  have b_law_plans := b_law_plans T
  have G_law_bent : FnOk P w K mg base CX0 5 (He.ga K "_law_bent") T.fd_law_bent ["pot", "plans"] (sp_law_bent K) := ok_law_bent T
  have b_law_bent := b_law_bent T
  have G_law_are_plans : FnOk P w K mg base CX0 4 (He.ga K "_law_are_plans") T.fd_law_are_plans ["thing"] (sp_are_plans K) := ok_law_are_plans T
  have b_law_are_plans := b_law_are_plans T
  have G_are_plans : FnOk P w K mg base CX0 5 (He.ga K "are_plans") T.fd_are_plans ["thing"] (sp_are_plans K) := ok_are_plans T
  have b_are_plans := b_are_plans T
  refine T.F_law.ok sc_law (fun vs H Q E h => ?_) (fun cdv A outer st H0 vs Q E hr h => ?_)
  · obtain ⟨a, ns, rfl, _⟩ := h
    rfl
  · obtain ⟨a, ns, rfl, ha, hns, kq⟩ := h
    refine ⟨_, PSs.nox (pss_cons (ps_for PassesOwn.never rfl (pi_range1 rfl T.n_range (pa_cons (pe_op op_add pe_int (pe_callB (call_min2 rfl) rfl T.n_min (by decide +kernel) (pa_cons pe_int (pa_cons (pe_callB call_len_seq rfl T.n_len PySem.boot_len (pa_cons (pv 0) pa_nil)) pa_nil)))) pa_nil)) (pg_name (i := 1) sc_law.nd rfl (Or.inl rfl))
 (pss_cons (ps_set (i := 2) sc_law.nd rfl (Or.inl rfl) (pe_call G_law_pot (hr.mono (by first | decide | omega)) rfl T.g_law_pot T.F_law_pot.kp b_law_pot .nil pass0 (pa_cons (pe_op EQT.op_catQ (RU.pe_lstS (pa_cons pe_int pa_nil)) (pv 0)) (pa_cons (pv 1) pa_nil))))
 (pss_cons (ps_set (i := 3) sc_law.nd rfl (Or.inl rfl) (pe_call G_law_plans (hr.mono (by first | decide | omega)) rfl T.g_law_plans T.F_law_plans.kp b_law_plans .nil pass0 (pa_cons (pv 2) (pa_cons (pe_ix ix_list (RU.pe_lstS (pa_cons pe_int (pa_cons pe_int (pa_cons pe_int (pa_cons pe_int pa_nil))))) (pe_call G_law_take (hr.mono (by first | decide | omega)) rfl T.g_law_take T.F_law_take.kp b_law_take .nil pass0 (pa_cons (pv 2) (pa_cons pe_int pa_nil))) (fun _ _ => rfl)) (pa_cons (pe_cmpR op_eq (pe_call G_law_take (hr.mono (by first | decide | omega)) rfl T.g_law_take T.F_law_take.kp b_law_take .nil pass0 (pa_cons (pv 2) (pa_cons pe_int pa_nil))) pe_int (nomark _)) pa_nil)))))
 (pss_cons (ps_set (i := 4) sc_law.nd rfl (Or.inl rfl) (RU.pe_lstS (pa_cons (pv 3) pa_nil)))
 (pss_cons (ps_for PassesOwn.never rfl (pi_range1 rfl T.n_range (pa_cons pe_int pa_nil)) (pg_name (i := 5) sc_law.nd rfl (Or.inl rfl))
 (pss_cons (ps_set (i := 6) sc_law.nd rfl (Or.inl rfl) (pe_call G_law_bent (hr.mono (by first | decide | omega)) rfl T.g_law_bent T.F_law_bent.kp b_law_bent .nil pass0 (pa_cons (pv 2) (pa_cons (pv 3) pa_nil))))
 (pss_cons (ps_expr (pe_bm PySem.F.plainAttrs_list PySem.F.slot_list_append PySem.F.type_list_append mt_append (pv 4) (pa_cons (pv 6) pa_nil)))
 (pss_one (ps_if (pt_val (pe_call G_law_are_plans (hr.mono (by first | decide | omega)) rfl T.g_law_are_plans T.F_law_are_plans.kp b_law_are_plans .nil pass0 (pa_cons (pv 6) pa_nil)))
 (pss_one (ps_expr (pe_bm PySem.F.plainAttrs_list PySem.F.slot_list_append PySem.F.type_list_append mt_append (pv 4) (pa_cons (pe_call G_law_bent (hr.mono (by first | decide | omega)) rfl T.g_law_bent T.F_law_bent.kp b_law_bent .nil pass0 (pa_cons (pv 2) (pa_cons (pv 6) pa_nil))) pa_nil))))
 pss_nil)))))
 (pss_one (ps_for PassesOwn.never rfl (pi_list (pv 4)) (pg_name (i := 7) sc_law.nd rfl (Or.inl rfl))
 (pss_one (ps_if (pt_cmpR op_ne (pe_callB RP.call_reprBl rfl T.n_repr (by decide +kernel) (pa_cons (pe_call G_are_plans (hr.mono (by first | decide | omega)) rfl T.g_are_plans T.F_are_plans.kp b_are_plans .nil pass0 (pa_cons (pv 7) pa_nil)) pa_nil)) (pe_callB RP.call_reprBl rfl T.n_repr (by decide +kernel) (pa_cons (pe_call G_law_are_plans (hr.mono (by first | decide | omega)) rfl T.g_law_are_plans T.F_law_are_plans.kp b_law_are_plans .nil pass0 (pa_cons (pv 7) pa_nil)) pa_nil)) (nomark _))
 (pss_one (ps_ret pe_bl))
 pss_nil)))))))))
 (pss_one (ps_ret (pe_and (pe_cmpR op_isBl (pe_call G_are_plans (hr.mono (by first | decide | omega)) rfl T.g_are_plans T.F_are_plans.kp b_are_plans .nil pass0 (pa_cons (RU.pe_tupS (pa_cons (RU.pe_tupS pa_nil) pa_nil)) pa_nil)) pe_bl (nomark _)) (pe_one (pe_cmpR op_isBl (pe_call G_are_plans (hr.mono (by first | decide | omega)) rfl T.g_are_plans T.F_are_plans.kp b_are_plans .nil pass0 (pa_cons (RU.pe_tupS pa_nil) pa_nil)) pe_bl (nomark _))))))), ?_⟩
    refine ⟨_, rfl, a, _, rfl, .inl ha, _, _, rfl, _, _, rfl, rfl, ?_⟩
    have hN : 0 ≤ 1 + (if ((ns.map V.int).length : Int) < 12 then ((ns.map V.int).length : Int) else 12) ∧ 1 + (if ((ns.map V.int).length : Int) < 12 then ((ns.map V.int).length : Int) else 12) ≤ 13 := by
      split <;> omega
    refine ⟨1 + (if ((ns.map V.int).length : Int) < 12 then ((ns.map V.int).length : Int) else 12), rfl, by omega, by omega, ?_⟩
    generalize 1 + (if ((ns.map V.int).length : Int) < 12 then ((ns.map V.int).length : Int) else 12) = N at hN
    refine for_range (n := N.toNat) (fun k σ H' => ∃ v2 v3 v4 v5 v6 v7 v8, σ = [some (.ref a), v2, v3, v4, v5, v6, v7, v8] ∧ Same H0 H') ⟨_, _, _, _, _, _, _, rfl, Same.refl H0⟩ ?_ ?_
    · rintro k σ H hk ⟨v2, v3, v4, v5, v6, v7, v8, rfl, s0⟩
      have ha1 : SqL K H a (ns.map V.int) := s0.seq ha
      refine ⟨by show 1 ≤ sizeLine; decide, fun q H1 s1 nq hq => ⟨_, rfl, q, a, _, _, rfl, rfl, hq, s1.seq ha1, ?_, fun q2 H2 s2 nq2 hq2 => ?_⟩⟩
      · rw [List.length_map]
        exact len_ok (by show 1 + ns.length ≤ 1000; omega)
      refine ⟨_, rfl, q2, 0 :: ns, k, ?_, SqL.of hq2, by omega, fun H3 p s3 np hp => ?_⟩
      · rw [show (0 : Int) + (k : Int) = (k : Int) by omega]
        rfl
      have s03 := ((s0.trans s1).trans s2).trans s3
      have np0 : H0 p = none := none_of ((s0.trans s1).trans s2) np
      refine ⟨_, rfl, by show 4 ≤ sizeLine; decide, fun l1 H4 s4 nl hl => ⟨_, rfl, p, 4, _, rfl, by decide, by decide, hp.same s4, by decide, fun H5 w5 b5 hp5 l5 u5 => ?_⟩⟩
      obtain ⟨most, hm, m4, m16⟩ : ∃ m : Int, atI [V.int 4, V.int 9, V.int 16, V.int 16] w5 = some (.int m) ∧ 4 ≤ m ∧ m ≤ 16 := by
        rcases (by omega : w5 = 0 ∨ w5 = 1 ∨ w5 = 2 ∨ w5 = 3) with rfl | rfl | rfl | rfl
        · exact ⟨4, rfl, by decide, by decide⟩
        · exact ⟨9, rfl, by decide, by decide⟩
        · exact ⟨16, rfl, by decide, by decide⟩
        · exact ⟨16, rfl, by decide, by decide⟩
      have npl : p ≠ l1 := hp.ne nl
      refine ⟨l1, _, w5, .int most, rfl, rfl, SqL.of (b5 _ _ npl.symm hl), hm, ?_⟩
      refine ⟨_, rfl, p, 2, _, rfl, by decide, by decide, hp5, by decide, fun H6 w6 b6 hp6 l6 u6 => ⟨rfl, ?_⟩⟩
      refine ⟨p, most, _, _, rfl, hp6, by decide, m4, m16, fun H7 d ps b7 hp7 hpl hgp => ?_⟩
      have b37 : But p H3 H7 := (((But.of s4).trans b5).trans b6).trans b7
      have s07 : Same H0 H7 := fun c o e => b37 _ _ (ne_of_none e np0) (s03 c o e)
      refine ⟨_, rfl, by show 1 ≤ sizeLine; decide, fun t H8 s8 nt ht => ?_⟩
      have pl8 := (Lch.of s8).pls hpl
      have bd0 : Bd3 (some ps) := fun qs e o ho ss eo => by
        cases e
        obtain ⟨ss', e', h⟩ := hgp.2.2 o ho
        rw [e'] at eo
        cases eo
        exact Nat.le_trans h.1 (by decide)
      have I8 : Thgs K p H0 H8 t (0 + 1 + 1 + 1000) 1 := ⟨s07.trans s8, hp7.same s8, ⟨_, ht, Nat.le_refl 1, fun x hx => by
        obtain rfl := List.mem_singleton.mp hx
        exact ⟨_, pl8, bd0⟩⟩, none_of s07 nt, np0, hp7.ne nt⟩
      refine ⟨4, rfl, by decide, by decide, ?_⟩
      refine for_range (n := 4) (fun j σ H' => ∃ v5 v6 v8, σ = [some (.ref a), some (.int (0 + (k : Int))), some (.ref p), some (.ref d), some (.ref t), v5, v6, v8] ∧ Thgs K p H0 H' t (1002 + 100 * (j : Int)) (1 + 2 * j) ∧ Pls K p H' (.ref d) (some ps)) ⟨_, _, _, rfl, I8, pl8⟩ ?_ ?_
      · rintro j σ H9 hj ⟨v5, v6, v8, rfl, I, hpl9⟩
        have tx : ∀ {H : Hp} {x : V} {qs : List (Option (List (Option (List V))))}, Pls K p H x (some qs) → ∃ d xs, x = .ref d ∧ Tx K p (Pln K p) H d xs qs := fun {H x qs} h => by
          obtain ⟨ne, h⟩ := h
          rcases h with ⟨a, xs, rs, e, ha, hx, er⟩ | ⟨_, er⟩
          · cases er
            exact ⟨a, xs, e, fun z => ne (by rw [e, z]), ha, hx⟩
          · cases er
        obtain ⟨d', xs, ed, hTx⟩ := tx hpl9
        cases ed
        refine ⟨_, rfl, _, rfl, p, d, xs, ps, _, rfl, hTx, hgp, I.pot, by omega, fun H10 x b10 hp10 hx => ?_⟩
        have I10 := I.go b10 hp10
        obtain ⟨ys, ht10, hyl, _⟩ := I10.lst
        refine ⟨_, rfl, .inl ⟨rfl, _, SqL.of ht10⟩, _, rfl, t, _, _, rfl, rfl, ht10, Nat.lt_of_le_of_lt (by omega : _ ≤ 100) (by decide), ?_⟩
        have I11 := I10.more ht10 hx
        have lch : Lch H10 (upd H10 t (.lst (ys ++ [x]))) := Lch.upd ht10
        have pl11 := lch.pls ((Lch.but I.pot hp10 b10).pls hpl9)
        obtain ⟨r, hr, br⟩ := hx
        have hr11 := lch.pls hr
        generalize upd H10 t (.lst (ys ++ [x])) = H11 at I11 pl11 hr11
        refine ⟨_, rfl, p, x, r, rfl, hr11, (fun ps e => br ps e), fun H12 s12 => ⟨_, rfl, ?_⟩⟩
        have I12 := I11.go (But.of s12) (I11.pot.same s12)
        have pl12 := (Lch.of s12).pls pl11
        have hr12 := (Lch.of s12).pls hr11
        cases c : pp1 r with
        | false => exact iteF ⟨_, _, _, rfl, ⟨I12.same, I12.pot.le (by omega), (let ⟨xs0, z0, z1, z2⟩ := I12.lst; ⟨xs0, z0, Nat.le_trans z1 (by omega), z2⟩), I12.nt, I12.np, I12.pt⟩, pl12⟩
        | true =>
          obtain ⟨qs, rfl, hgq⟩ := plans_good c
          obtain ⟨d2, xs2, rfl, hT2⟩ := tx hr12
          obtain ⟨zs, ht12, hzl, _⟩ := I12.lst
          refine iteT ⟨_, rfl, .inl ⟨rfl, _, SqL.of ht12⟩, _, rfl, _, rfl, p, d2, xs2, qs, _, rfl, hT2, hgq, I12.pot, by omega, fun H13 x3 b13 hp13 hx3 => ?_⟩
          have I13 := I12.go b13 hp13
          obtain ⟨zs', ht13, hzl3, _⟩ := I13.lst
          refine ⟨t, _, _, rfl, rfl, ht13, Nat.lt_of_le_of_lt (by omega : _ ≤ 100) (by decide), ?_⟩
          have I14 := I13.more ht13 hx3
          exact ⟨_, _, _, rfl, ⟨I14.same, I14.pot.le (by omega), (let ⟨xs0, z0, z1, z2⟩ := I14.lst; ⟨xs0, z0, Nat.le_trans z1 (by omega), z2⟩), I14.nt, I14.np, I14.pt⟩, (Lch.upd ht13).pls ((Lch.but I12.pot hp13 b13).pls pl12)⟩
      · rintro σ H9 ⟨v5, v6, v8, rfl, I, _⟩
        obtain ⟨xs, ht9, hxl, hall⟩ := I.lst
        refine ⟨_, rfl, t, rfl, ⟨_, SqL.of ht9⟩, ?_⟩
        refine for_list (xs := xs) (fun m σ H' => ∃ v8, σ = [some (.ref a), some (.int (0 + (k : Int))), some (.ref p), some (.ref d), some (.ref t), v5, v6, v8] ∧ Same H9 H') ⟨_, rfl, Same.refl H9⟩ (fun m σ H' _ z => by obtain ⟨_, _, s⟩ := z; exact SqL.of (s _ _ ht9)) ?_ ?_
        · rintro m x σ H10 hxm ⟨v8, rfl, s10⟩
          obtain ⟨r, hr, br⟩ := hall x (List.mem_of_getElem? hxm)
          refine ⟨_, rfl, p, x, r, rfl, (Lch.of s10).pls hr, (fun ps e => br ps e), fun H11 s11 => ?_⟩
          refine ⟨_, rfl, _, rfl, p, x, r, rfl, (Lch.of (s10.trans s11)).pls hr, (fun ps e => br ps e), fun H12 s12 => ⟨_, rfl, rfl, _, rfl, ?_⟩⟩
          rw [decide_eq_true rfl]
          exact iteF ⟨_, rfl, (s10.trans s11).trans s12⟩
        · rintro σ H10 ⟨v8, rfl, s10⟩
          exact ⟨_, _, _, _, _, _, _, rfl, I.same.trans s10⟩
    · rintro σ H ⟨v2, v3, v4, v5, v6, v7, v8, rfl, s0⟩
      refine ⟨Nat.zero_le _, fun q1 H1 s1 n1 h1 => ⟨by show 1 ≤ sizeLine; decide, fun q2 H2 s2 n2 h2 => ?_⟩⟩
      have e1 : Lv K (q1 + q2 + 1) (Stp K (q1 + q2 + 1)) H2 (.ref q1) (some []) := Lv.tup (FzT.sq (FzT.same s2 h1)) .nil (Nat.ne_of_gt (Nat.lt_succ_of_le (Nat.le_add_right q1 q2)))
      have e2 : Pls K (q1 + q2 + 1) H2 (.ref q2) (some [some []]) := Lv.tup (FzT.sq h2) (paired_one e1) (Nat.ne_of_gt (Nat.lt_succ_of_le (Nat.le_add_left q2 q1)))
      refine ⟨q1 + q2 + 1, .ref q2, some [some []], rfl, e2, fun ps e o ho ss eo => ?_, fun H3 s3 => ⟨true, true, rfl, rfl, ?_⟩⟩
      · cases e
        obtain rfl := List.mem_singleton.mp ho
        cases eo
        exact Nat.zero_le _
      refine ⟨_, rfl, iteT ?_⟩
      refine ⟨Nat.zero_le _, fun q4 H4 s4 n4 h4 => ?_⟩
      have e4 : Pls K (q4 + 1) H4 (.ref q4) (some []) := Lv.tup (FzT.sq h4) .nil (Nat.succ_ne_self q4)
      refine ⟨q4 + 1, .ref q4, some [], rfl, e4, fun ps e o ho => ?_, fun H5 s5 => ⟨false, false, rfl, rfl, ?_⟩⟩
      · cases e
        cases ho
      exact kq H5
end
end K40

namespace K40
open PySem PySem.Spec PyProof.Rows L2 RZ HX
def d_is_whole : He.DefD := ⟨("is_whole", none), "is_whole", "is_whole", defArgs s_is_whole, defBody s_is_whole, defScope s_is_whole, [], []⟩
def d_is_between : He.DefD := ⟨("is_between", none), "is_between", "is_between", defArgs s_is_between, defBody s_is_between, defScope s_is_between, [], []⟩
def d_is_row : He.DefD := ⟨("is_row", none), "is_row", "is_row", defArgs s_is_row, defBody s_is_row, defScope s_is_row, [], []⟩
def d_is_plan_step : He.DefD := ⟨("is_plan_step", none), "is_plan_step", "is_plan_step", defArgs s_is_plan_step, defBody s_is_plan_step, defScope s_is_plan_step, [], []⟩
def d_is_plan : He.DefD := ⟨("is_plan", none), "is_plan", "is_plan", defArgs s_is_plan, defBody s_is_plan, defScope s_is_plan, [], []⟩
def d_are_plans : He.DefD := ⟨("are_plans", none), "are_plans", "are_plans", defArgs s_are_plans, defBody s_are_plans, defScope s_are_plans, [], []⟩
def d_law_pot : He.DefD := ⟨("_law_pot", none), "_law_pot", "_law_pot", defArgs s_law_pot, defBody s_law_pot, defScope s_law_pot, [], []⟩
def d_law_take : He.DefD := ⟨("_law_take", none), "_law_take", "_law_take", defArgs s_law_take, defBody s_law_take, defScope s_law_take, [], []⟩
def d_law_pool : He.DefD := ⟨("_law_pool", none), "_law_pool", "_law_pool", defArgs s_law_pool, defBody s_law_pool, defScope s_law_pool, [], []⟩
def d_law_plan : He.DefD := ⟨("_law_plan", none), "_law_plan", "_law_plan", defArgs s_law_plan, defBody s_law_plan, defScope s_law_plan, [], []⟩
def d_law_round : He.DefD := ⟨("_law_round", none), "_law_round", "_law_round", defArgs s_law_round, defBody s_law_round, defScope s_law_round, [], []⟩
def d_law_plans : He.DefD := ⟨("_law_plans", none), "_law_plans", "_law_plans", defArgs s_law_plans, defBody s_law_plans, defScope s_law_plans, [], []⟩
def d_law_whole : He.DefD := ⟨("_law_whole", none), "_law_whole", "_law_whole", defArgs s_law_whole, defBody s_law_whole, defScope s_law_whole, [], []⟩
def d_law_is_step : He.DefD := ⟨("_law_is_step", none), "_law_is_step", "_law_is_step", defArgs s_law_is_step, defBody s_law_is_step, defScope s_law_is_step, [], []⟩
def d_law_is_plan : He.DefD := ⟨("_law_is_plan", none), "_law_is_plan", "_law_is_plan", defArgs s_law_is_plan, defBody s_law_is_plan, defScope s_law_is_plan, [], []⟩
def d_law_are_plans : He.DefD := ⟨("_law_are_plans", none), "_law_are_plans", "_law_are_plans", defArgs s_law_are_plans, defBody s_law_are_plans, defScope s_law_are_plans, [], []⟩
def d_law_odd : He.DefD := ⟨("_law_odd", none), "_law_odd", "_law_odd", defArgs s_law_odd, defBody s_law_odd, defScope s_law_odd, [], []⟩
def d_law_bent_step : He.DefD := ⟨("_law_bent_step", none), "_law_bent_step", "_law_bent_step", defArgs s_law_bent_step, defBody s_law_bent_step, defScope s_law_bent_step, [], []⟩
def d_law_bent_plan : He.DefD := ⟨("_law_bent_plan", none), "_law_bent_plan", "_law_bent_plan", defArgs s_law_bent_plan, defBody s_law_bent_plan, defScope s_law_bent_plan, [], []⟩
def d_law_bent : He.DefD := ⟨("_law_bent", none), "_law_bent", "_law_bent", defArgs s_law_bent, defBody s_law_bent, defScope s_law_bent, [], []⟩
def d_law : He.DefD := ⟨("law", none), "law", "law", defArgs s_law, defBody s_law, defScope s_law, [], []⟩
def fn : List He.DefD := [d_is_whole, d_is_between, d_is_row, d_is_plan_step, d_is_plan, d_are_plans, d_law_pot, d_law_take, d_law_pool, d_law_plan, d_law_round, d_law_plans, d_law_whole, d_law_is_step, d_law_is_plan, d_law_are_plans, d_law_odd, d_law_bent_step, d_law_bent_plan, d_law_bent, d_law]
def fa : List He.Fa := [.glo "is_whole", .glo "is_between", .glo "is_row", .glo "is_plan_step", .glo "is_plan", .glo "are_plans", .glo "_law_pot", .glo "_law_take", .glo "_law_pool", .glo "_law_plan", .glo "_law_round", .glo "_law_plans", .glo "_law_whole", .glo "_law_is_step", .glo "_law_is_plan", .glo "_law_are_plans", .glo "_law_odd", .glo "_law_bent_step", .glo "_law_bent_plan", .glo "_law_bent", .glo "law", .int "MOST_HANDS" 4, .int "MOST_STEPS" 16, .int "LAST_PLANNED" 60, .free "abs", .free "all", .free "bool", .free "int", .free "isinstance", .free "len", .free "list", .free "max", .free "min", .free "range", .free "repr", .free "str", .free "tuple"]
theorem tx {K : PySem.W.Frag} {h : Heap} {mg : Str → Option Value} (X : K.In h) (G : h.Ns mainGlobals mg) (c : He.SaysD fa fn K) : Nonempty (TX K mg) := by
  obtain ⟨fd_is_whole, F_is_whole⟩ := c.def_ 0 (d := d_is_whole) rfl
  obtain ⟨fd_is_between, F_is_between⟩ := c.def_ 1 (d := d_is_between) rfl
  obtain ⟨fd_is_row, F_is_row⟩ := c.def_ 2 (d := d_is_row) rfl
  obtain ⟨fd_is_plan_step, F_is_plan_step⟩ := c.def_ 3 (d := d_is_plan_step) rfl
  obtain ⟨fd_is_plan, F_is_plan⟩ := c.def_ 4 (d := d_is_plan) rfl
  obtain ⟨fd_are_plans, F_are_plans⟩ := c.def_ 5 (d := d_are_plans) rfl
  obtain ⟨fd_law_pot, F_law_pot⟩ := c.def_ 6 (d := d_law_pot) rfl
  obtain ⟨fd_law_take, F_law_take⟩ := c.def_ 7 (d := d_law_take) rfl
  obtain ⟨fd_law_pool, F_law_pool⟩ := c.def_ 8 (d := d_law_pool) rfl
  obtain ⟨fd_law_plan, F_law_plan⟩ := c.def_ 9 (d := d_law_plan) rfl
  obtain ⟨fd_law_round, F_law_round⟩ := c.def_ 10 (d := d_law_round) rfl
  obtain ⟨fd_law_plans, F_law_plans⟩ := c.def_ 11 (d := d_law_plans) rfl
  obtain ⟨fd_law_whole, F_law_whole⟩ := c.def_ 12 (d := d_law_whole) rfl
  obtain ⟨fd_law_is_step, F_law_is_step⟩ := c.def_ 13 (d := d_law_is_step) rfl
  obtain ⟨fd_law_is_plan, F_law_is_plan⟩ := c.def_ 14 (d := d_law_is_plan) rfl
  obtain ⟨fd_law_are_plans, F_law_are_plans⟩ := c.def_ 15 (d := d_law_are_plans) rfl
  obtain ⟨fd_law_odd, F_law_odd⟩ := c.def_ 16 (d := d_law_odd) rfl
  obtain ⟨fd_law_bent_step, F_law_bent_step⟩ := c.def_ 17 (d := d_law_bent_step) rfl
  obtain ⟨fd_law_bent_plan, F_law_bent_plan⟩ := c.def_ 18 (d := d_law_bent_plan) rfl
  obtain ⟨fd_law_bent, F_law_bent⟩ := c.def_ 19 (d := d_law_bent) rfl
  obtain ⟨fd_law, F_law⟩ := c.def_ 20 (d := d_law) rfl
  exact ⟨{ fd_is_whole := fd_is_whole, F_is_whole := F_is_whole, g_is_whole := He.glo_ok X G (c.fact 0 (f := .glo "is_whole") rfl), fd_is_between := fd_is_between, F_is_between := F_is_between, g_is_between := He.glo_ok X G (c.fact 1 (f := .glo "is_between") rfl), fd_is_row := fd_is_row, F_is_row := F_is_row, g_is_row := He.glo_ok X G (c.fact 2 (f := .glo "is_row") rfl), fd_is_plan_step := fd_is_plan_step, F_is_plan_step := F_is_plan_step, g_is_plan_step := He.glo_ok X G (c.fact 3 (f := .glo "is_plan_step") rfl), fd_is_plan := fd_is_plan, F_is_plan := F_is_plan, g_is_plan := He.glo_ok X G (c.fact 4 (f := .glo "is_plan") rfl), fd_are_plans := fd_are_plans, F_are_plans := F_are_plans, g_are_plans := He.glo_ok X G (c.fact 5 (f := .glo "are_plans") rfl), fd_law_pot := fd_law_pot, F_law_pot := F_law_pot, g_law_pot := He.glo_ok X G (c.fact 6 (f := .glo "_law_pot") rfl), fd_law_take := fd_law_take, F_law_take := F_law_take, g_law_take := He.glo_ok X G (c.fact 7 (f := .glo "_law_take") rfl), fd_law_pool := fd_law_pool, F_law_pool := F_law_pool, g_law_pool := He.glo_ok X G (c.fact 8 (f := .glo "_law_pool") rfl), fd_law_plan := fd_law_plan, F_law_plan := F_law_plan, g_law_plan := He.glo_ok X G (c.fact 9 (f := .glo "_law_plan") rfl), fd_law_round := fd_law_round, F_law_round := F_law_round, g_law_round := He.glo_ok X G (c.fact 10 (f := .glo "_law_round") rfl), fd_law_plans := fd_law_plans, F_law_plans := F_law_plans, g_law_plans := He.glo_ok X G (c.fact 11 (f := .glo "_law_plans") rfl), fd_law_whole := fd_law_whole, F_law_whole := F_law_whole, g_law_whole := He.glo_ok X G (c.fact 12 (f := .glo "_law_whole") rfl), fd_law_is_step := fd_law_is_step, F_law_is_step := F_law_is_step, g_law_is_step := He.glo_ok X G (c.fact 13 (f := .glo "_law_is_step") rfl), fd_law_is_plan := fd_law_is_plan, F_law_is_plan := F_law_is_plan, g_law_is_plan := He.glo_ok X G (c.fact 14 (f := .glo "_law_is_plan") rfl), fd_law_are_plans := fd_law_are_plans, F_law_are_plans := F_law_are_plans, g_law_are_plans := He.glo_ok X G (c.fact 15 (f := .glo "_law_are_plans") rfl), fd_law_odd := fd_law_odd, F_law_odd := F_law_odd, g_law_odd := He.glo_ok X G (c.fact 16 (f := .glo "_law_odd") rfl), fd_law_bent_step := fd_law_bent_step, F_law_bent_step := F_law_bent_step, g_law_bent_step := He.glo_ok X G (c.fact 17 (f := .glo "_law_bent_step") rfl), fd_law_bent_plan := fd_law_bent_plan, F_law_bent_plan := F_law_bent_plan, g_law_bent_plan := He.glo_ok X G (c.fact 18 (f := .glo "_law_bent_plan") rfl), fd_law_bent := fd_law_bent, F_law_bent := F_law_bent, g_law_bent := He.glo_ok X G (c.fact 19 (f := .glo "_law_bent") rfl), fd_law := fd_law, F_law := F_law, g_law := He.glo_ok X G (c.fact 20 (f := .glo "law") rfl), g_MOST_HANDS := He.int_ok X G (c.fact 21 (f := .int "MOST_HANDS" 4) rfl), g_MOST_STEPS := He.int_ok X G (c.fact 22 (f := .int "MOST_STEPS" 16) rfl), g_LAST_PLANNED := He.int_ok X G (c.fact 23 (f := .int "LAST_PLANNED" 60) rfl), n_abs := He.free_ok X G (c.fact 24 (f := .free "abs") rfl), n_all := He.free_ok X G (c.fact 25 (f := .free "all") rfl), n_bool := He.free_ok X G (c.fact 26 (f := .free "bool") rfl), n_int := He.free_ok X G (c.fact 27 (f := .free "int") rfl), n_isinstance := He.free_ok X G (c.fact 28 (f := .free "isinstance") rfl), n_len := He.free_ok X G (c.fact 29 (f := .free "len") rfl), n_list := He.free_ok X G (c.fact 30 (f := .free "list") rfl), n_max := He.free_ok X G (c.fact 31 (f := .free "max") rfl), n_min := He.free_ok X G (c.fact 32 (f := .free "min") rfl), n_range := He.free_ok X G (c.fact 33 (f := .free "range") rfl), n_repr := He.free_ok X G (c.fact 34 (f := .free "repr") rfl), n_str := He.free_ok X G (c.fact 35 (f := .free "str") rfl), n_tuple := He.free_ok X G (c.fact 36 (f := .free "tuple") rfl) }⟩
def loose : List Str := (["__name__", "is_whole", "is_between", "is_row", "MOST_HANDS", "MOST_STEPS", "LAST_PLANNED", "is_plan_step", "is_plan", "are_plans", "_law_pot", "_law_take"] : List Str) ++ (["_law_pool", "_law_plan", "_law_round", "_law_plans", "_law_whole", "_law_is_step", "_law_is_plan", "_law_are_plans", "_law_odd", "_law_bent_step", "_law_bent_plan", "_law_bent"] : List Str)
abbrev R : PySem.W.OpenRow := PySem.W.OpenLaw.row PySem.Challenge.rw_latchgrove_k40_plans_known
abbrev hk : PySem.W.Hook := He.hookD 5 fa fn
def ob (s : PySem.W.SharedT) : He.AlD := He.obsDG 5 fa fn (HandSHeadRun.getT s)
theorem ob_eq (s : PySem.W.SharedT) : ob s = hk.obs s.abs := He.obsDG_eq (HandSHeadRun.getT_eq s)
theorem run (w : World) : HandSHeadRun.RunEq R (PySem.W.view R.prog [26]) hk ob 12000 loose w := by
  intro os
  kernel_rfl
end K40

open PySem PySem.W PySem.Calls PyProof.Rows
theorem PySem.Challenge.cw_latchgrove_k40_plans_known_holds : PySem.Challenge.rw_latchgrove_k40_plans_known.Holds := by
  w_on; o_law
  refine HandSHeadRun.head_any (r := OpenLaw.row PySem.Challenge.rw_latchgrove_k40_plans_known) (q := view (OpenLaw.row PySem.Challenge.rw_latchgrove_k40_plans_known).prog [26]) (H := K40.hk) (ob := K40.ob) (M := 12000) (loose := K40.loose) (d := HandSHeadRun.topDef (OpenLaw.row PySem.Challenge.rw_latchgrove_k40_plans_known).prog 26) (kwd := []) K40.ob_eq
    (by kernel_rfl) (fun s => by kernel_rfl) K40.run (by kernel_rfl) (by kernel_rfl) (by kernel_rfl) (by rfl) (by first | assumption | decide +kernel) (by decide +kernel) ⟨rfl, rfl, rfl, rfl, rfl, by decide +kernel⟩ ?hw ?hc
  case hw => w_witness2
  case hc =>
    refine L2.walk_ofE (l := PySem.Challenge.rw_latchgrove_k40_plans_known) (n := 63) (k := 6) (x := "script") (CX := L2.CX0) rfl (by decide) (by kernel_rfl) ⟨rfl, by decide, by decide⟩ ?F (fun _ _ _ _ z => z)
    intro w mg fa h Y G hmg0
    obtain ⟨K, KX, c⟩ := Y
    have hmg : mg ("law" : PySem.Str) = some (.ref fa) := by
      have e : (HandSHeadRun.topDef (OpenLaw.row PySem.Challenge.rw_latchgrove_k40_plans_known).prog 26).name = ("law" : PySem.Str) := by kernel_rfl
      rw [← e]
      exact hmg0
    obtain ⟨T⟩ := K40.tx KX G c
    have e := hmg.symm.trans T.g_law
    cases e
    have b := L2.FunD.bindsA (ps := ["script"]) T.F_law fun _ _ _ _ _ _ us hl => match us, hl with | [_], _ => rfl
    exact ⟨K, T.fd_law, K40.sp_law K, KX, fun s v => b s [v] rfl, fun H a ns hl _ hS => ⟨a, ns, rfl, hS, hl, fun _ => rfl⟩, fun base _ _ => K40.ok_law T⟩

