import PyProof.Rows.All
import Wide.All
import OpenK.AllK
import Wide.FinOn
import KE.KStateDown
import Lean
import HandS.ForMost
import HandS.Wide
import HandS.IsInst
import HandS.Zip
import HandS.Walk
import HandS.Style
import HandS.Defaults
import HandS.MakeKwOnly
import HandS.CallRecv
import HandS.Sort
import HandS.Evl
import HandS.DictTup
import HandS.SortOrd
import HandS.Deep
import HandS.Head0
import HandS.Head1
import HandS.Head2
import HandS.HeadEnd
import HandS.HeadHook1
import HandS.HeadHook2
import HandS.TupAny
import KE.GoesNew
import KE.GoesMore
import HandS.Star
import KE.KDictPairs
import HandS.WordsDict
import HandS.SortRule
import HandS.More
import HandS.Strs
import HandS.SetFor
import HandS.SortInts
import HandS.TupMul
import HandS.Conv
import HandS.Flow
import HandS.Rev
import PySem.Challenge.RW_latchgrove_k30_trees_by_shapes
set_option Elab.async false
set_option linter.all false
set_option maxRecDepth 100000
set_option maxHeartbeats 8000000
namespace HX
open PySem PySem.Spec PyProof.Rows L2

/-! ### numbers -/
def CPowW (i j : Int) : Prop := 0 ≤ j ∧ (Builtin.Int.intBits i : Int) * j ≤ 2 ^ 27
section
variable {X : Cx}
theorem op_powW : OpR X (binaryOp .Pow) (rI CPowW fun i j => .int (i ^ j.toNat)) := opI fun _ _ _ _ _ _ _ hc q => pow_int hc.1 hc.2 q
end
theorem intBits_le (x : Int) : Builtin.Int.intBits x ≤ x.natAbs.log2 + 1 := by
  unfold Builtin.Int.intBits
  split <;> omega
theorem powW_of {i j : Int} {a : Nat} (h0 : 0 ≤ j) (ha : i.natAbs < 2 ^ a) (hp : 0 < a) (h : (a : Int) * j ≤ 2 ^ 27) : CPowW i j := by
  refine ⟨h0, ?_⟩
  have x := PySem.Flt.log2_lt_of hp ha
  have y := intBits_le i
  have z : (Builtin.Int.intBits i : Int) ≤ (a : Int) := by omega
  exact Int.le_trans (Int.mul_le_mul_of_nonneg_right z h0) h

/-! ### xs[i] op= e -/
section
variable {X : Cx}
theorem get_list : PGet X (rIxL X.K) := by
  intro pins s σ H o i ov iv Q I rx ry h
  obtain ⟨p, xs, k, z, rfl, rfl, hq, he, q⟩ := h
  cases rx
  obtain ⟨t, rfl⟩ := ry
  obtain ⟨its, r, pl, hz⟩ := I.list hq
  obtain ⟨j, h1, h2, h3, h4, h5⟩ := atI_get he
  obtain ⟨w, ew, rw'⟩ := r.get h2
  have hl := r.length
  have hn := line63
  have fin : EP X pins σ Q w s := ⟨z, H, I, rw', q⟩
  by_cases h0 : 0 ≤ k
  · have hj : k.toNat = j := by
      rw [seqIndex_of h0 h5] at h1
      exact Option.some.inj h1
    exact wpAny_getItem_list pl.isList h0 (by omega) (by rw [hj]; simpa using ew) fin
  · have hj : (k + (its.toArray.size : Int)).toNat = j := by
      rw [seqIndex_neg (by omega) h4] at h1
      rw [List.size_toArray, ← hl]
      exact Option.some.inj h1
    exact wpAny_getItem_list_neg pl.isList (by omega) (by rw [List.size_toArray] <;> omega) (by omega) (by rw [hj]; simpa using ew) fin
end

/-! ### a walk over a range held as a value -/
section
variable {X : Cx} {tg : Expr}
def iRngV (te : TE) : TI := fun σ H R => te σ H fun v H1 => ∃ (a : Addr) (lo hi : Int), v = .ref a ∧ H1 a = some (.rng lo hi) ∧ (-(2 ^ 62) ≤ lo ∧ lo < 2 ^ 62 ∧ -(2 ^ 62) ≤ hi ∧ hi < 2 ^ 62) ∧ R (Itr lo (hi - lo).toNat) H1
theorem pi_rngV {e : Expr} {te : TE} (he : PE X e te) : PI X tg e (iRngV te) := by
  refine ⟨fun pins s σ H R I h => ?_⟩
  refine thn (he.run pins s σ H _ I h) fun u s1 ⟨x, H1, I1, rx, a, lo, hi, ex, ea, ⟨h1, h2, h3, h4⟩, q⟩ => ?_
  subst ex
  obtain rfl : u = Value.ref a := rx
  obtain ⟨t, u, v, ho⟩ := I1.hok _ _ ea
  refine wpAny_pyIter_range ho (small_one h1 h2 h3 h4) ?_
  refine ⟨s1.heap.objs.size, [s1.heap.objs.size], _, _, H1, rfl,
    I1.kept (t' := s1.toks) fun b o e => Heap.get?_push_of_some _ e, turn_range _ lo (hi - lo).toNat, ?_, fun b hb => ?_, q⟩
  · have e1 : lo + ((0 : Nat) : Int) * 1 = lo := by simp
    have e2 : (((hi - lo).toNat : Nat) : Int) - ((0 : Nat) : Int) = Builtin.Range.rangeSize lo hi 1 := by rw [rangeSize_one]; split <;> omega
    show IsRangeIter _ _ (lo + ((0 : Nat) : Int) * 1) ((((hi - lo).toNat : Nat) : Int) - ((0 : Nat) : Int)) 1
    rw [e1, e2]
    exact Heap.get?_push_size _ rfl
  · have e : b = s1.heap.objs.size := by simpa using hb
    subst e
    exact I1.fpOk (Nat.le_refl _) (I1.hok.fresh (Nat.le_refl _))
end

/-! ### heaps -/
theorem same_upd {H H' : Hp} {p : Addr} {o : HO} (s : Same H H') (h : H p = none) : Same H (upd H' p o) := fun b u e => by
  rw [upd_ne (fun z => by rw [z, h] at e; cases e)]
  exact s b u e
theorem same_new {H : Hp} {p : Addr} {o : HO} (h : H p = none) : Same H (upd H p o) := same_upd (Same.refl H) h
/-- all but what stands at p is as it was -/
def But (p : Addr) (H H' : Hp) : Prop := ∀ b o, b ≠ p → H b = some o → H' b = some o
theorem But.refl (p : Addr) (H : Hp) : But p H H := fun _ _ _ h => h
theorem But.trans {p : Addr} {H H1 H2 : Hp} (a : But p H H1) (b : But p H1 H2) : But p H H2 := fun c o n h => b c o n (a c o n h)
theorem But.of {p : Addr} {H H' : Hp} (s : Same H H') : But p H H' := fun b o _ h => s b o h
theorem But.upd {p : Addr} {H H' : Hp} {o : HO} (s : But p H H') : But p H (upd H' p o) := fun b u n e => by
  rw [upd_ne n]
  exact s b u n e
theorem But.new {p q : Addr} {H H' : Hp} {o : HO} (s : But p H H') (h : H' q = none) : But p H (L2.upd H' q o) := fun b u n e => by
  have e' := s b u n e
  rw [upd_ne (ne_of_none e' h)]
  exact e'
theorem But.seq {K : PySem.W.Frag} {H H' : Hp} {p a : Addr} {xs : List V} (e : But p H H') (n : a ≠ p) (h : SqL K H a xs) : SqL K H' a xs := by
  rcases h with (h | ⟨o, h⟩) | h
  · exact .inl (.inl (e _ _ n h))
  · exact .inl (.inr ⟨o, e _ _ n h⟩)
  · exact .inr h

/-! ### names of the module, of built-in classes -/
section
variable {X : Cx} {x : Str} {pos : Pos}
theorem pe_gint {i : Int} (h : ∃ t, X.mg x = some (.int i t)) (hg : Gl X x := by rfl) (hdb : (x == ("__debug__" : Str)) = false := by decide) : PE X (.Name x pos) (tC (.int i)) := by
  obtain ⟨t, ht⟩ := h
  exact pe_glob hg ht ⟨t, rfl⟩ hdb
theorem pe_ty (n : String) (hm : X.mg x = none) (hv : bootBuiltins x = some (.type n)) (hg : Gl X x := by rfl) (hn : x ≠ ("__name__" : Str) := by decide) (hdb : (x == ("__debug__" : Str)) = false := by decide) : PE X (.Name x pos) (tC (.ty n)) := pe_bltn hg hm hv rfl hn hdb
end

/-! ### lists of whole numbers by a function of the place -/
def fl (n : Nat) (f : Nat → Int) : List V := (List.range n).map fun i => V.int (f i)
theorem fl_len (n : Nat) (f : Nat → Int) : (fl n f).length = n := by unfold fl; rw [List.length_map, List.length_range]
theorem fl_get {n : Nat} {f : Nat → Int} {i : Nat} (h : i < n) : (fl n f)[i]? = some (.int (f i)) := by
  unfold fl
  rw [List.getElem?_map, List.getElem?_range h]
  rfl
theorem fl_at {n : Nat} {f : Nat → Int} {i : Nat} (h : i < n) : atI (fl n f) (i : Int) = some (.int (f i)) := atI_nat (fl_get h)
theorem fl_at' {n : Nat} {f : Nat → Int} {i : Int} {k : Nat} (h : k < n) (e : i = (k : Int)) : atI (fl n f) i = some (.int (f k)) := by
  subst e
  exact fl_at h
theorem at_of {α : Type} {xs : List α} {i : Int} {j : Nat} {v : α} (h : xs[j]? = some v) (e : i = (j : Int)) : atI xs i = some v := by
  subst e
  exact atI_nat h
theorem at_last {α : Type} {xs : List α} {n : Nat} {v : α} (hl : xs.length = n + 1) (h : xs[n]? = some v) : atI xs (-1) = some v := by
  have e : ixN xs.length (-1) = some n := by
    unfold ixN
    rw [hl, if_neg (by decide), if_pos (by omega)]
    congr 1
    omega
  unfold atI
  rw [e]
  exact h
theorem fl_congr {n : Nat} {f g : Nat → Int} (h : ∀ i, i < n → f i = g i) : fl n f = fl n g := by
  unfold fl
  exact List.map_congr_left fun i hi => by rw [h i (List.mem_range.mp hi)]
theorem fl_set {n : Nat} {f : Nat → Int} {j : Nat} (v : Int) (h : j < n) : (fl n f).set j (.int v) = fl n (fun i => if i = j then v else f i) := by
  refine List.ext_getElem? fun i => ?_
  by_cases hi : i < n
  · rw [fl_get hi, List.getElem?_set, fl_len]
    by_cases e : j = i
    · subst e
      rw [if_pos rfl, if_pos h, if_pos rfl]
    · rw [if_neg e, fl_get hi, if_neg (fun z => e z.symm)]
  · rw [List.getElem?_eq_none (by rw [List.length_set, fl_len]; omega), List.getElem?_eq_none (by rw [fl_len]; omega)]
theorem fl_rep (n : Nat) (v : Int) : (List.replicate n [V.int v]).flatten = fl n (fun _ => v) := by
  refine List.ext_getElem? fun i => ?_
  have e : (List.replicate n [V.int v]).flatten = List.replicate n (V.int v) := by
    induction n with
    | zero => rfl
    | succ n ih => rw [List.replicate_succ, List.flatten_cons, ih]; rfl
  rw [e]
  by_cases hi : i < n
  · rw [fl_get hi, List.getElem?_replicate, if_pos hi]
  · rw [List.getElem?_eq_none (by rw [List.length_replicate]; omega), List.getElem?_eq_none (by rw [fl_len]; omega)]
theorem fl_snoc (n : Nat) (f : Nat → Int) : fl n f ++ [.int (f n)] = fl (n + 1) f := by
  unfold fl
  rw [List.range_succ, List.map_append]
  rfl
theorem fl_cons (n : Nat) (f : Nat → Int) : V.int (f 0) :: fl n (fun i => f (i + 1)) = fl (n + 1) f := by
  unfold fl
  rw [List.range_succ_eq_map, List.map_cons, List.map_map]
  rfl
theorem ixN_nat {n j : Nat} (h : j < n) : ixN n (j : Int) = some j := by
  unfold ixN
  rw [if_pos (by omega), if_pos (by omega)]
  simp
theorem ixN_nat' {n j : Nat} {i : Int} (h : j < n) (e : i = (j : Int)) : ixN n i = some j := by
  subst e
  exact ixN_nat h
theorem take_more {α : Type} : ∀ {l : List α} {i : Nat} {x : α}, l[i]? = some x → l.take (i + 1) = l.take i ++ [x]
  | [], i, x, h => by simp at h
  | a :: l, 0, x, h => by
    have e : a = x := Option.some.inj h
    subst e
    rfl
  | a :: l, i + 1, x, h => by
    have ih := take_more (l := l) (i := i) (x := x) h
    show a :: l.take (i + 1) = a :: l.take i ++ [x]
    rw [ih]
    rfl
theorem Same.list {H H' : Hp} {a : Addr} {xs : List V} (s : Same H H') (h : H a = some (.lst xs)) : H' a = some (.lst xs) := s _ _ h

/-! ### fields -/
theorem lk_hit (f : Str) (v : V) (fs : List (Str × V)) : (putF f v fs).lookup f = some v := by rw [lookup_putF, if_pos rfl]
theorem lk_miss {f g : Str} (h : ¬ f = g) {v : V} {fs : List (Str × V)} {o : Option V} (q : fs.lookup g = o) : (putF f v fs).lookup g = o := by rw [lookup_putF, if_neg (fun z => h z.symm)]; exact q
theorem putF_len (f : Str) (v : V) : ∀ fs : List (Str × V), (putF f v fs).length ≤ fs.length + 1
  | [] => Nat.le_refl _
  | (g, x) :: r => by
    unfold putF
    split
    · exact Nat.le_succ _
    · exact Nat.succ_le_succ (putF_len f v r)
theorem putF_lt {f : Str} {v : V} {fs : List (Str × V)} {n : Nat} (h : fs.length < n) : (putF f v fs).length < n + 1 := Nat.lt_of_le_of_lt (putF_len f v fs) (Nat.succ_lt_succ h)

/-! ### the same rules with the written part named (for what stands in a comprehension) -/
section
variable {X : Cx}
theorem ixl (K : PySem.W.Frag) (h : X.K = K := by rfl) : IxR X (rIxL K) := by
  subst h
  exact ix_list
theorem ixt (K : PySem.W.Frag) (h : X.K = K := by rfl) : IxR X (rIxT K) := by
  subst h
  exact ix_tup
theorem lenK (K : PySem.W.Frag) (h : X.K = K := by rfl) : CallR X (.builtin "len") (fun xs H Q => ∃ p ys, xs = [.ref p] ∧ (SqL K H p ys ∨ SqT K H p ys) ∧ Q (.int ys.length) H) := by
  subst h
  exact call_len_seq
theorem isiK (K : PySem.W.Frag) (h : X.K = K := by rfl) : CallR X (.builtin "isinstance") (rIsi K) := by
  subst h
  exact call_isi
theorem sllK (K : PySem.W.Frag) (h : X.K = K := by rfl) : SlR X (rSlL K) := by
  subst h
  exact sl_list
theorem pe_fldK (K : PySem.W.Frag) {e : Expr} {f : Str} {pos : Pos} {ta : TE} (he : PE X e ta) (hb : attributeBase e f X.env (eval e X.env) = eval e X.env) (h : X.K = K := by rfl) : PE X (.Attribute e f pos) (tFld K ta f) := by
  subst h
  exact pe_fld he hb
end
end HX

/-! ### sorted(d.items()), d a dict with whole numbers as keys and objects as values -/
namespace HS
open PySem PySem.Spec PyProof.Rows L2
section
variable {X : Cx}
/-- d.items() -/
def rItemsK : V → List V → Hp → VK → Prop := fun x xs H Q => ∃ (a : Addr) (kvs : List (L2.Key × V)), x = .ref a ∧ xs = [] ∧ H a = some (.dK kvs) ∧ ∀ p, H p = none → Q (.ref p) (upd H p (DX.itemsO p a))
theorem mt_itemsK : MtR X "dict.items" rItemsK := by
  intro pins s σ H x xs v us Q I rx rxs h
  obtain ⟨a, kvs, rfl, rfl, ha, q⟩ := h
  cases rx
  cases rxs
  obtain ⟨z, hd, vs, rel, o, es, ep, ho, hx, hdat, _⟩ := dk_of I.hok ha
  refine DT.callItems (es := es) (ep := ep) hd ⟨o, ho, hx, hdat⟩ ?_
  have hf : H s.heap.objs.size = none := I.hok.fresh (Nat.le_refl _)
  exact ⟨.ref s.heap.objs.size, upd H s.heap.objs.size (DX.itemsO s.heap.objs.size a), I.laid (t' := s.toks) (fun b u e => Heap.get?_push_of_some _ e) (Nat.le_refl _) (DX.itemsO_ok (Heap.get?_push_size _ rfl)), rfl, q _ hf⟩
abbrev entK (e : Int × Addr) : L2.Key × V := (Sum.inl e.1, V.ref e.2)
def rSortItK : List V → Hp → VK → Prop := fun vs H Q => ∃ (p a : Addr) (ks : List (Int × Addr)), vs = [.ref p] ∧ H p = some (DX.itemsO p a) ∧ H a = some (.dK (ks.map entK)) ∧
  ∀ (H' : Hp) (l : Addr) (ps : List (Addr × Int × Addr)), (∀ b o, H b = some o → H' b = some o) → H l = none → (ps.map (·.2)).Perm ks → (ps.map (·.2)).Pairwise (fun e f => e.1 < f.1) → H' l = some (.lst (ps.map fun z => V.ref z.1)) →
    (∀ z ∈ ps, H' z.1 = some (.tup [.int z.2.1, .ref z.2.2])) → Q (.ref l) H'
/-- the first item, a whole number, of the tuple that the value stands for -/
def kfI (h : Heap) (v : Value) : Int := match v with
  | .ref b => (match h.get? b with
    | some o => (match o.data with
      | .seq xs _ => (match (xs[0]? : Option Value) with
        | some (Value.int i _) => i
        | _ => 0)
      | _ => 0)
    | _ => 0)
  | _ => 0
theorem kfI_of {h : Heap} {b : Addr} {o : Obj} {i : Int} {t : Tok} {v : Value} {n : Nat} (ho : h.get? b = some o) (hd : o.data = .seq #[.int i t, v] n) : kfI h (.ref b) = i := by
  unfold kfI
  simp only [ho, hd]
  rfl
theorem swo_int (k : Value → Int) : SrtO.Swo fun v u => decide (k v < k u) := by
  refine ⟨fun x y h => ?_, fun x y z h1 h2 => ?_⟩
  · have a := of_decide_eq_true h
    exact decide_eq_false (by omega)
  · have a := of_decide_eq_false h1
    have b := of_decide_eq_false h2
    exact decide_eq_false (by omega)
/-- a pair with a whole number first -/
def IsEnt (h : Heap) (v : Value) (i : Int) : Prop := ∃ (a : Addr) (o : Obj) (t : Tok) (u : Value) (n : Nat), v = .ref a ∧ h.get? a = some o ∧ o.cls = .type "tuple" ∧ o.data = .seq #[.int i t, u] n
theorem firstsE {h : Heap} {k : Value → Int} : ∀ vs : List Value, (∀ v ∈ vs, IsEnt h v (k v)) → ∃ fs : List Value, PySem.W.KatTups h vs fs ∧ fs.length = vs.length ∧ ∀ f ∈ fs, ∃ x t, f = Value.int x t
  | [], _ => ⟨[], PySem.W.KatTups.nil, rfl, fun f hf => nomatch hf⟩
  | v :: vs, x => by
    obtain ⟨fs, k1, hl, hi⟩ := firstsE (h := h) (k := k) vs fun u hu => x u (List.mem_cons_of_mem _ hu)
    obtain ⟨a, o, t, u, n, e, ho, hc, hd⟩ := x v (List.mem_cons_self ..)
    subst e
    refine ⟨.int (k (.ref a)) t :: fs, PySem.W.KatTups.cons ho hc hd rfl k1, congrArg Nat.succ hl, fun f hf => ?_⟩
    rcases List.mem_cons.mp hf with rfl | hf
    · exact ⟨_, _, rfl⟩
    · exact hi f hf
section
variable {prog : Program} {w : World} {A : Around} {s : Shared}
theorem ent_cmp {vs : List Value} {k : Value → Int} (hp : ∀ v ∈ vs, IsEnt s.heap v (k v)) (inj : ∀ v ∈ vs, ∀ u ∈ vs, k v = k u → v = u) : SrtO.Cmp prog w A s (tuples' true) (fun p => p.1 ∈ vs) (SrtO.lt2 fun v u => decide (k v < k u)) := by
  intro p q hm hm'
  have h1 := hp _ hm
  have h2 := hp _ hm'
  have hi := inj _ hm _ hm'
  show wpAny (model prog w) A (keyLt' (tuples' true) p.1 q.1) (fun r s' => s' = s ∧ r = decide (k p.1 < k q.1)) (fun _ _ => False) s
  generalize k p.1 = x at h1 hi ⊢
  generalize k q.1 = x' at h2 hi ⊢
  obtain ⟨a, o, t, u, n, e, ho, hc, hd⟩ := h1
  obtain ⟨a', o', t', u', n', e', ho', hc', hd'⟩ := h2
  rw [e, e']
  refine PySem.W.kat_lt ho hd ho' hd' ?_
  show PySem.W.KatLex prog w A true (decide (2 < 2)) _ [(.int x t, .int x' t'), (u, u')] 0 s
  refine PySem.W.kat_cons (SeqAt.EqAt.int_int x t x' t' prog w _ _ ?_)
  refine PySem.W.kat_go (fun e1 => ?_) (fun e1 => ?_)
  · have ex : x = x' := by simpa using e1
    have ev := hi ex
    rw [e, e'] at ev
    cases ev
    have eo : o = o' := Option.some.inj (ho.symm.trans ho')
    subst eo
    rw [hd] at hd'
    have eu : u = u' := by
      injection hd' with h1 h2
      have z := congrArg (fun (a : Array Value) => a[1]?) h1
      simpa using z
    subst eu
    refine PySem.W.kat_yes (PySem.W.kat_cons (SeqAt.EqAt.same u prog w _ _ ?_))
    refine PySem.W.kat_yes (PySem.W.kat_nil ⟨rfl, ?_⟩)
    rw [ex]
    exact (decide_eq_false (Int.lt_irrefl _)).symm
  · exact PySem.W.kat_no (oneLt_int ⟨rfl, rfl⟩)
theorem ents_sortable {a : Addr} {vs : List Value} {k : Value → Int} (h0 : 0 < vs.length) (hp : ∀ v ∈ vs, IsEnt s.heap v (k v)) (inj : ∀ v ∈ vs, ∀ u ∈ vs, k v = k u → v = u) (ha : ∀ o, s.heap.get? a = some o → o.cls ≠ .type "tuple") :
    SrtO.SortableO prog w A s a vs fun v u => decide (k v < k u) := by
  intro h' keep
  have hp' : ∀ v ∈ vs, IsEnt h' v (k v) := fun v hm => by
    obtain ⟨b, o, t, u, n, e, ho, hc, hd⟩ := hp v hm
    exact ⟨b, o, t, u, n, e, keep b o (fun z => by subst z; exact ha o ho hc) ho, hc, hd⟩
  obtain ⟨fs, h1, h2, h3⟩ := firstsE (h := h') (k := k) vs hp'
  refine ⟨tuples' true, fun Q E hq => ?_, ent_cmp hp' inj⟩
  refine PySem.W.kat_kind (T := .type "int") h1 (by omega) (fun f hm => ?_) (by rfl) ?_
  · obtain ⟨x, t, rfl⟩ := h3 f hm
    exact PySem.W.Looks.now
  · have e : (Value.type "int" != Value.type "tuple") = true := by first | decide +kernel | rfl | decide
    rw [e]
    exact hq
end
theorem pairs_at {P : Program} {w : World} : ∀ {es : List DictEntry} {vs : List (L2.Key × Value)}, Pairs (mixKind P w) es vs → ∀ (j : Nat) (e : DictEntry), es[j]? = some e → ∃ kv, vs[j]? = some kv ∧ keyIs kv.1 e.key = true ∧ e.val = kv.2
  | _, _, .nil, j, e, h => by simp at h
  | _, _, .cons h1 h2 r, 0, e, h => by
    cases h
    exact ⟨_, rfl, h1, h2⟩
  | _, _, .cons h1 h2 r, j + 1, e, h => pairs_at r j e h
theorem kv_at : ∀ {ks : List (Int × Addr)} {vs : List (L2.Key × Value)}, KV (ks.map entK) vs → ∀ (j : Nat) (kv : L2.Key × Value), vs[j]? = some kv → ∃ e, ks[j]? = some e ∧ kv = (Sum.inl e.1, Value.ref e.2)
  | [], _, h, j, kv, q => by
    cases h
    simp at q
  | e :: ks, _, h, j, kv, q => by
    cases h with
    | cons r rs =>
      cases j with
      | zero =>
        have q' := Option.some.inj q
        obtain ⟨r1, r2⟩ := r
        refine ⟨e, rfl, ?_⟩
        rw [← q']
        exact Prod.ext r1.symm r2
      | succ j => exact kv_at (ks := ks) rs j kv q
theorem cr_sortedItK (hc : X.calm = true) : CallR X (.builtin "sorted") rSortItK := by
  intro pins s σ H xs us Q I r h
  obtain ⟨p, a, ks, rfl, hp, ha, q⟩ := h
  obtain rfl := Vals.ref1 r
  have view : s.heap.IsItemsView p a := (show ObjOk X.prog X.w H s.heap p (DX.itemsO p a) from I.hok p _ hp).1
  obtain ⟨z, hd, vs', rel, o, es, ep, ho, hx, hdat, hko, hpairs, hnd⟩ := dk_of I.hok ha
  have l1 : (ks.map entK).length = vs'.length := Paired.length rel
  rw [List.length_map] at l1
  have l2 : es.size = vs'.length := by
    rw [← Pairs.length hpairs, Array.length_toList]
  rw [List.length_map] at z
  have hh : X.A.handled = none := I.ok.hd hc
  refine DT.sortedI (es := es) (ep := ep) hh view ⟨o, ho, hx, hdat⟩ (by omega) fun h' tk as hk hlt hl hG => ?_
  have lak : as.length = ks.length := by omega
  have nd : as.Nodup := List.Pairwise.imp (fun h => Nat.ne_of_lt h) hG.rise
  have pr : ∀ (j : Nat) (b : Addr), as[j]? = some b → ∃ (e : Int × Addr) (t : Tok), ks[j]? = some e ∧ h'.get? b = some { cls := .type "tuple", data := .seq #[Value.int e.1 t, Value.ref e.2] } := by
    intro j b hj
    obtain ⟨en, he, hg⟩ := hG.pairs j b hj
    obtain ⟨kv, h1, h2, h3⟩ := pairs_at hpairs j en (by rw [Array.getElem?_toList]; exact he)
    obtain ⟨e, h4, rfl⟩ := kv_at rel j kv h1
    rcases keyIs_shape h2 with ⟨i, t, e1, e2⟩ | ⟨i, t, e1, e2⟩
    · cases e1
      rw [e2, h3] at hg
      exact ⟨e, t, h4, hg⟩
    · cases e1
  have knd : (ks.map (·.1)).Nodup := by
    have e : vs'.map (·.1) = ks.map fun e => (Sum.inl e.1 : L2.Key) := by
      refine List.ext_getElem? fun j => ?_
      rw [List.getElem?_map, List.getElem?_map]
      cases hv : vs'[j]? with
      | none =>
        have : ks[j]? = none := List.getElem?_eq_none (by rw [l1]; exact List.getElem?_eq_none_iff.mp hv)
        rw [this]
        rfl
      | some kv =>
        obtain ⟨e, h4, rfl⟩ := kv_at rel j kv hv
        rw [h4]
        rfl
    rw [e] at hnd
    exact List.pairwise_map.mpr (List.Pairwise.imp (fun {x y} h z => h (congrArg Sum.inl z)) (List.pairwise_map.mp hnd))
  have hob : (h'.push { cls := .type "list", data := .seq (as.map Value.ref).toArray }).get? h'.objs.size = some (seqObj "list" (as.map Value.ref).toArray 0) := Heap.get?_push_size _ rfl
  have kb : ∀ b o, s.heap.get? b = some o → (h'.push { cls := .type "list", data := .seq (as.map Value.ref).toArray }).get? b = some o := fun b o e => Heap.get?_push_of_some _ (hk b o e)
  have ne0 : ∀ b o, h'.get? b = some o → b ≠ h'.objs.size := fun b o e => Nat.ne_of_lt (Heap.lt_size e)
  generalize hh2 : h'.push { cls := .type "list", data := .seq (as.map Value.ref).toArray } = h2 at hob kb ⊢
  have ka : ∀ b o, h'.get? b = some o → h2.get? b = some o := fun b o e => by rw [← hh2]; exact Heap.get?_push_of_some _ e
  have at_ : ∀ v ∈ as.map Value.ref, ∃ (j : Nat) (b : Addr) (e : Int × Addr) (t : Tok), v = .ref b ∧ as[j]? = some b ∧ ks[j]? = some e ∧ h'.get? b = some { cls := .type "tuple", data := .seq #[Value.int e.1 t, Value.ref e.2] } := by
    intro v hv'
    obtain ⟨b, hb, rfl⟩ := List.mem_map.mp hv'
    obtain ⟨j, hj⟩ := List.mem_iff_getElem?.mp hb
    obtain ⟨e, t, he, hg⟩ := pr j b hj
    exact ⟨j, b, e, t, rfl, hj, he, hg⟩
  have kf : ∀ (b : Addr) (e : Int × Addr) (t : Tok), h'.get? b = some { cls := .type "tuple", data := .seq #[Value.int e.1 t, Value.ref e.2] } → kfI h' (.ref b) = e.1 := fun b e t hg => kfI_of hg rfl
  have ent : ∀ v ∈ as.map Value.ref, IsEnt h2 v (kfI h' v) := by
    intro v hv
    obtain ⟨j, b, e, t, rfl, _, _, hg⟩ := at_ v hv
    exact ⟨b, _, t, .ref e.2, 0, rfl, ka _ _ hg, rfl, by rw [kf b e t hg]⟩
  have inj : ∀ v ∈ as.map Value.ref, ∀ u ∈ as.map Value.ref, kfI h' v = kfI h' u → v = u := by
    intro v hv u hu hvu
    obtain ⟨j, b, e, t, rfl, j1, j2, hg⟩ := at_ v hv
    obtain ⟨i, c, f, t', rfl, i1, i2, hg'⟩ := at_ u hu
    rw [kf b e t hg, kf c f t' hg'] at hvu
    have ej : (ks.map (·.1))[j]? = some e.1 := by rw [List.getElem?_map, j2]; rfl
    have ei : (ks.map (·.1))[i]? = some e.1 := by rw [List.getElem?_map, i2, hvu]; rfl
    have eij : j = i := (List.getElem?_inj (List.getElem?_eq_some_iff.mp ej).1 knd).mp (ej.trans ei.symm)
    subst eij
    rw [i1] at j1
    cases j1
    rfl
  refine wpAny_call_entry PyProof.Rows.slot_list_sort ⟨_, hob, rfl⟩ PyProof.Rows.entry_list_sort
    (SrtO.list_sort_ord (s := { s with heap := h2, toks := tk }) (swo_int (kfI h')) hob (by rw [List.length_map]; omega) (fun h2' => ents_sortable (s := { s with heap := h2, toks := tk }) (by omega) ent inj fun o e => ?_) fun out o1 o2 => ⟨.none, rfl, ?_⟩) (PyProof.Rows.args_list_sort _)
  · have e' : some o = some (seqObj "list" (as.map Value.ref).toArray 0) := e.symm.trans hob
    cases e'
    intro c
    exact absurd (Value.type.inj c) (by decide)
  · show EP X pins σ Q (.ref h'.objs.size) { s with heap := sortedHeap h2 h'.objs.size (as.map Value.ref) out.toArray, toks := tk }
    obtain ⟨zs, pz, ez⟩ := perm_lift (fun z : Addr × Int × Addr => Value.ref z.1) o2.perm (as.zip ks) (by
      rw [show (fun z : Addr × Int × Addr => Value.ref z.1) = Value.ref ∘ Prod.fst from rfl, ← List.map_map, List.map_fst_zip (by omega)])
    have idx : ∀ z ∈ zs, ∃ j : Nat, as[j]? = some z.1 ∧ ks[j]? = some z.2 := by
      intro z' hz'
      obtain ⟨j, hj⟩ := List.mem_iff_getElem?.mp (pz.mem_iff.mp hz')
      exact ⟨j, List.getElem?_zip_eq_some.mp hj⟩
    have hperm : (zs.map (·.2)).Perm ks := by
      have e := pz.map (·.2)
      have m2 : (as.zip ks).map (·.2) = ks := List.map_snd_zip (by rw [lak]; exact Nat.le_refl _)
      rw [m2] at e
      exact e
    have kz : ∀ z ∈ zs, kfI h' (.ref z.1) = z.2.1 := fun z hz => by
      obtain ⟨j, j1, j2⟩ := idx z hz
      obtain ⟨e, t, he, hg⟩ := pr j _ j1
      rw [kf _ e t hg]
      rw [he] at j2
      cases j2
      rfl
    have hsort : (zs.map (·.2)).Pairwise (fun e f => e.1 < f.1) := by
      have le : (zs.map (·.2)).Pairwise (fun e f => e.1 ≤ f.1) := by
        have o1' : out.Pairwise (fun v u => decide (kfI h' u < kfI h' v) = false) := o1
        rw [← ez, List.pairwise_map] at o1'
        rw [List.pairwise_map]
        refine List.Pairwise.imp_of_mem (fun {x y} hx hy h => ?_) o1'
        have h2 := of_decide_eq_false h
        rw [kz x hx, kz y hy] at h2
        omega
      have ne : (zs.map (·.2)).Pairwise (fun e f => e.1 ≠ f.1) := by
        have n1 : ((zs.map (·.2)).map (·.1)).Nodup := (hperm.map (·.1)).nodup_iff.mpr knd
        exact List.pairwise_map.mp n1
      exact List.Pairwise.imp (fun {x y} h => by have := h.1; have := h.2; omega) (List.Pairwise.and le ne)
    have kF : ∀ b o, b ≠ h'.objs.size → h2.get? b = some o → (sortedHeap h2 h'.objs.size (as.map Value.ref) out.toArray).get? b = some o := fun b o hb e => (PyProof.Rows.sortedHeap_old hb (Heap.lt_size e)).trans e
    have kS : ∀ b o, s.heap.get? b = some o → (sortedHeap h2 h'.objs.size (as.map Value.ref) out.toArray).get? b = some o := fun b o e => kF b o (ne0 _ _ (hk b o e)) (kb b o e)
    obtain ⟨eF, heF⟩ := PyProof.Rows.sortedHeap_at (vs := as.map Value.ref) (out := out.toArray) hob
    have I1 : Inv X pins σ H { s with heap := sortedHeap h2 h'.objs.size (as.map Value.ref) out.toArray, toks := tk } := I.kept (t' := tk) kS
    have hn0 : H h'.objs.size = none := I.hok.fresh (Nat.le_of_lt hlt)
    have hlen : (zs.map fun z => V.ref z.1).length ≤ sizeLine := by
      have e := hperm.length_eq
      rw [List.length_map] at e
      rw [List.length_map]
      omega
    have rv : Vals (zs.map fun z => V.ref z.1) out := by
      rw [← ez]
      exact vals_maps (fun z : Addr × Int × Addr => V.ref z.1) (fun z => Value.ref z.1) zs fun _ _ => rfl
    have I2 : Inv X pins σ (upd H h'.objs.size (.lst (zs.map fun z => V.ref z.1))) { s with heap := sortedHeap h2 h'.objs.size (as.map Value.ref) out.toArray, toks := tk } :=
      I1.take (h' := sortedHeap h2 h'.objs.size (as.map Value.ref) out.toArray) (t' := tk) (fun b ob _ e => e) (I.fpOk (Nat.le_of_lt hlt) hn0) ⟨hlen, out, eF, rv, heF⟩
    obtain ⟨H2, I3, g, qt⟩ := DX.takeT (P := fun b vs => ∃ (j : Nat) (e : Int × Addr), as[j]? = some b ∧ ks[j]? = some e ∧ vs = [.int e.1, .ref e.2]) I as _ I2 nd fun b hb => by
      obtain ⟨j, hj⟩ := List.mem_iff_getElem?.mp hb
      obtain ⟨e, t, he, hg⟩ := pr j b hj
      have hbl : s.heap.objs.size ≤ b := Nat.le_of_lt (hG.above b hb)
      refine ⟨hbl, ?_, [.int e.1, .ref e.2], ⟨j, e, hj, he, rfl⟩, fun H3 => ⟨(by rw [sizeLine_eq]; show 2 ≤ 16777216; omega), [Value.int e.1 t, Value.ref e.2], .cons ⟨t, rfl⟩ (.cons rfl .nil), ⟨_, kF _ _ (ne0 _ _ hg) (ka _ _ hg), rfl, 0, rfl⟩⟩⟩
      rw [upd_ne (ne0 _ _ hg)]
      exact I.hok.fresh hbl
    have gr : ∀ b o, H b = some o → H2 b = some o := fun b o e => g b o (by rw [upd_ne (ne_of_none e hn0)]; exact e)
    refine ⟨.ref h'.objs.size, H2, I3, rfl, q H2 h'.objs.size zs gr hn0 hperm hsort (g _ _ upd_same) fun z' hz' => ?_⟩
    obtain ⟨i, i1, i2⟩ := idx z' hz'
    obtain ⟨vs, ⟨j, e, j1, j2, ev⟩, hH⟩ := qt z'.1 (List.mem_of_getElem? i1)
    have eij : i = j := (List.getElem?_inj (List.getElem?_eq_some_iff.mp i1).1 nd).mp (i1.trans j1.symm)
    subst eij
    have ee : e = z'.2 := Option.some.inj (j2.symm.trans i2)
    rw [ev, ee] at hH
    exact hH
end
end HS

/-! ### shapes, trees: plain mathematics, and what stands for them in a heap -/
namespace TR
open PySem PySem.Spec PyProof.Rows L2 HX
def Sh : Nat → Type
  | 0 => Nat
  | l + 1 => List (Sh l)
def Sh.n (s : Sh 0) : Nat := s
def Sh.ks {l : Nat} (s : Sh (l + 1)) : List (Sh l) := s
def cntS : (l : Nat) → Sh l → Nat
  | 0, n => n
  | l + 1, ks => (ks.ks.map (cntS l)).sum
def pgsS : (l : Nat) → Sh l → Nat
  | 0, _ => 1
  | l + 1, ks => 1 + (ks.ks.map (pgsS l)).sum
def loS (room l : Nat) (top : Bool) : Nat := if top = true then (if l = 0 then 0 else 2) else (room + 1) / 2
def WfSh (room : Nat) : (l : Nat) → Bool → Sh l → Prop
  | 0, top, n => loS room 0 top ≤ n.n ∧ n.n ≤ room
  | l + 1, top, ks => loS room (l + 1) top ≤ ks.ks.length ∧ ks.ks.length ≤ room ∧ ∀ k ∈ ks.ks, WfSh room l false k
/-- how many pages at most -/
def cS (room : Nat) : Nat → Nat
  | 0 => 1
  | l + 1 => 1 + room * cS room l
theorem sum_le {α : Type} {f : α → Nat} {c : Nat} : ∀ {xs : List α}, (∀ x ∈ xs, f x ≤ c) → (xs.map f).sum ≤ xs.length * c
  | [], _ => Nat.zero_le _
  | x :: xs, h => by
    have a := h x (List.mem_cons_self ..)
    have b := sum_le (f := f) (c := c) (xs := xs) fun y hy => h y (List.mem_cons_of_mem _ hy)
    rw [List.map_cons, List.sum_cons, List.length_cons, Nat.succ_mul]
    omega
theorem pgs_le {room : Nat} : ∀ {l : Nat} {top : Bool} {s : Sh l}, WfSh room l top s → pgsS l s ≤ cS room l
  | 0, _, _, _ => Nat.le_refl 1
  | l + 1, _, s, h => by
    obtain ⟨_, h2, h3⟩ := h
    have a := sum_le (f := pgsS l) (c := cS room l) (xs := s.ks) fun k hk => pgs_le (h3 k hk)
    have b : s.ks.length * cS room l ≤ room * cS room l := Nat.mul_le_mul_right _ h2
    show 1 + (s.ks.map (pgsS l)).sum ≤ 1 + room * cS room l
    omega
theorem cnt_le {room : Nat} : ∀ {l : Nat} {top : Bool} {s : Sh l}, WfSh room l top s → cntS l s ≤ room * cS room l
  | 0, _, s, h => by
    have := h.2
    show s.n ≤ room * 1
    omega
  | l + 1, _, s, h => by
    obtain ⟨_, h2, h3⟩ := h
    have a := sum_le (f := cntS l) (c := room * cS room l) (xs := s.ks) fun k hk => cnt_le (h3 k hk)
    have b : s.ks.length * (room * cS room l) ≤ room * (room * cS room l) := Nat.mul_le_mul_right _ h2
    show (s.ks.map (cntS l)).sum ≤ room * (1 + room * cS room l)
    rw [Nat.mul_add]
    omega
/-! ### in the heap -/
/-- tuples never change -/
def tpb : HO → Bool
  | .tup _ => true
  | .frz _ (.tup _) => true
  | _ => false
structure Keep (H H' : Hp) : Prop where
  all : ∀ b u, tpb u = true → H b = some u → H' b = some u
instance {H H' : Hp} : CoeFun (Keep H H') (fun _ => ∀ b xs, H b = some (.tup xs) → H' b = some (.tup xs)) := ⟨fun k b _ h => k.all b _ rfl h⟩
theorem Keep.frz {H H' : Hp} (k : Keep H H') {b : Addr} {o : Obj} {xs : List V} (h : H b = some (.frz o (.tup xs))) : H' b = some (.frz o (.tup xs)) := k.all b _ rfl h
theorem Keep.refl (H : Hp) : Keep H H := ⟨fun _ _ _ h => h⟩
theorem Keep.trans {H H1 H2 : Hp} (a : Keep H H1) (b : Keep H1 H2) : Keep H H2 := ⟨fun c u t h => b.all c u t (a.all c u t h)⟩
theorem Keep.of {H H' : Hp} (s : Same H H') : Keep H H' := ⟨fun b u _ h => s b _ h⟩
theorem tpb_no {H : Hp} {p : Addr} (h : ∀ u, H p = some u → tpb u = false) {b : Addr} {u : HO} (t : tpb u = true) (e : H b = some u) : b ≠ p := fun z => by
  subst z
  rw [h u e] at t
  cases t
theorem Keep.but {H H' : Hp} {p : Addr} (s : But p H H') (h : ∀ u, H p = some u → tpb u = false) : Keep H H' := ⟨fun b u t e => s b _ (tpb_no h t e) e⟩
theorem Keep.upd {H H' : Hp} {p : Addr} {o : HO} (s : Keep H H') (h : ∀ u, H' p = some u → tpb u = false) : Keep H (upd H' p o) := ⟨fun b u t e => by
  have z := s.all b u t e
  rw [upd_ne (tpb_no h t z)]
  exact z⟩
def ShAt (H : Hp) : (l : Nat) → V → Sh l → Prop
  | 0, v, n => v = .int (n.n : Int)
  | l + 1, v, ks => ∃ (a : Addr) (xs : List V), v = .ref a ∧ H a = some (.tup xs) ∧ Paired (ShAt H l) xs ks.ks
theorem paired_imp {α β : Type} {R R' : α → β → Prop} (h : ∀ x y, R x y → R' x y) : ∀ {xs : List α} {ys : List β}, Paired R xs ys → Paired R' xs ys
  | _, _, .nil => .nil
  | _, _, .cons r rs => .cons (h _ _ r) (paired_imp h rs)
theorem paired_snoc {α β : Type} {R : α → β → Prop} {x : α} {y : β} (h : R x y) : ∀ {xs : List α} {ys : List β}, Paired R xs ys → Paired R (xs ++ [x]) (ys ++ [y])
  | _, _, .nil => .cons h .nil
  | _, _, .cons r rs => .cons r (paired_snoc h rs)
theorem pget1 {α β : Type} {R : α → β → Prop} : ∀ {xs : List α} {ys : List β}, Paired R xs ys → ∀ {i : Nat} {x : α}, xs[i]? = some x → ∃ y, ys[i]? = some y ∧ R x y
  | _, _, .nil, i, x, h => by simp at h
  | _, _, .cons r rs, 0, x, h => by
    cases h
    exact ⟨_, rfl, r⟩
  | _, _, .cons r rs, i + 1, x, h => pget1 rs (i := i) h
theorem pget2 {α β : Type} {R : α → β → Prop} : ∀ {xs : List α} {ys : List β}, Paired R xs ys → ∀ {i : Nat} {y : β}, ys[i]? = some y → ∃ x, xs[i]? = some x ∧ R x y
  | _, _, .nil, i, x, h => by simp at h
  | _, _, .cons r rs, 0, x, h => by
    cases h
    exact ⟨_, rfl, r⟩
  | _, _, .cons r rs, i + 1, x, h => pget2 rs (i := i) h
theorem ShAt.keep {H H' : Hp} (k : Keep H H') : ∀ {l : Nat} {v : V} {s : Sh l}, ShAt H l v s → ShAt H' l v s
  | 0, _, _, h => h
  | l + 1, _, _, h => by
    obtain ⟨a, xs, rfl, h1, h2⟩ := h
    exact ⟨a, xs, rfl, k _ _ h1, paired_imp (fun _ _ r => ShAt.keep k r) h2⟩
/-- a pair of whole numbers -/
def PrAt (H : Hp) (x : V) (p : Int × Int) : Prop := ∃ t : Addr, x = .ref t ∧ H t = some (.tup [.int p.1, .int p.2])
theorem PrAt.keep {H H' : Hp} (k : Keep H H') {x : V} {p : Int × Int} (h : PrAt H x p) : PrAt H' x p := by
  obtain ⟨t, e, h1⟩ := h
  exact ⟨t, e, k _ _ h1⟩
end TR

/-! ### trees of pages: plain mathematics -/
namespace TR
open PySem PySem.Spec PyProof.Rows L2 HX
inductive Pg where
  | leaf (ps : List (Int × Int)) (nx : Int)
  | node (ks kids : List Int)
def lkp (D : List (Int × Pg)) (k : Int) : Option Pg := (D.find? fun q => decide (q.1 = k)).map (·.2)
theorem lkp_none {D : List (Int × Pg)} {k : Int} (h : ∀ q ∈ D, q.1 ≠ k) : lkp D k = none := by
  unfold lkp
  rw [List.find?_eq_none.mpr (fun q hq => by simpa using h q hq)]
  rfl
theorem lkp_ne {D : List (Int × Pg)} {k : Int} (h : lkp D k = none) : ∀ q ∈ D, q.1 ≠ k := by
  unfold lkp at h
  intro q hq e
  have z : (D.find? fun q => decide (q.1 = k)) = none := by
    cases c : D.find? fun q => decide (q.1 = k) with
    | none => rfl
    | some x => rw [c] at h; cases h
  have := List.find?_eq_none.mp z q hq
  exact this (decide_eq_true e)
theorem lkp_keep {D D' : List (Int × Pg)} {k : Int} {x : Pg} (h : lkp D k = some x) : lkp (D ++ D') k = some x := by
  unfold lkp at h ⊢
  rw [List.find?_append]
  cases c : D.find? fun q => decide (q.1 = k) with
  | none => rw [c] at h; cases h
  | some y => rw [c] at h; exact h
theorem lkp_end {D : List (Int × Pg)} {k : Int} {x : Pg} (h : lkp D k = none) : lkp (D ++ [(k, x)]) k = some x := by
  unfold lkp at h ⊢
  rw [List.find?_append]
  cases c : D.find? fun q => decide (q.1 = k) with
  | none =>
    simp
  | some y => rw [c] at h; cases h
def Tr : Nat → Type
  | 0 => Int × List (Int × Int)
  | l + 1 => Int × List Int × List (Tr l)
def lfT (n : Int) (ps : List (Int × Int)) : Tr 0 := (n, ps)
def ndT {l : Nat} (n : Int) (ks : List Int) (kids : List (Tr l)) : Tr (l + 1) := (n, ks, kids)
def Tr.ps (t : Tr 0) : List (Int × Int) := Prod.snd t
def Tr.keys {l : Nat} (t : Tr (l + 1)) : List Int := Prod.fst (Prod.snd t)
def Tr.kids {l : Nat} (t : Tr (l + 1)) : List (Tr l) := Prod.snd (Prod.snd t)
def num : (l : Nat) → Tr l → Int
  | 0, t => Prod.fst t
  | _ + 1, t => Prod.fst t
def nums : (l : Nat) → Tr l → List Int
  | 0, t => [num 0 t]
  | l + 1, t => num (l + 1) t :: t.kids.flatMap (nums l)
def prs : (l : Nat) → Tr l → List (Int × Int)
  | 0, t => t.ps
  | l + 1, t => t.kids.flatMap (prs l)
def shp : (l : Nat) → Tr l → Sh l
  | 0, t => t.ps.length
  | l + 1, t => t.kids.map (shp l)
def Laid (D : List (Int × Pg)) : (l : Nat) → Tr l → Prop
  | 0, t => ∃ nx, lkp D (num 0 t) = some (.leaf t.ps nx)
  | l + 1, t => lkp D (num (l + 1) t) = some (.node t.keys (t.kids.map (num l))) ∧ ∀ k ∈ t.kids, Laid D l k
theorem Laid.more {D D' : List (Int × Pg)} : ∀ {l : Nat} {t : Tr l}, Laid D l t → Laid (D ++ D') l t
  | 0, _, ⟨nx, h⟩ => ⟨nx, lkp_keep h⟩
  | _ + 1, _, ⟨h, g⟩ => ⟨lkp_keep h, fun k hk => (g k hk).more⟩
/-- keys between kids -/
def KBs {α : Type} (R : α → Int → Int → Prop) : Int → List Int → List α → Int → Prop
  | lo, [], [k], hi => R k lo hi
  | lo, a :: ks, k :: kids, hi => R k lo a ∧ KBs R a ks kids hi
  | _, _, _, _ => False
theorem KBs.snoc {α : Type} {R : α → Int → Int → Prop} {a hi : Int} {x : α} (hx : R x a hi) : ∀ {kids : List α} {ks : List Int} {lo : Int}, KBs R lo ks kids a → KBs R lo (ks ++ [a]) (kids ++ [x]) hi
  | [], ks, _, h => by cases ks <;> exact h.elim
  | [k], [], _, h => ⟨h, hx⟩
  | _ :: _ :: _, [], _, h => h.elim
  | k :: kids, b :: ks, _, h => ⟨h.1, KBs.snoc hx h.2⟩
theorem KBs.len {α : Type} {R : α → Int → Int → Prop} {hi : Int} : ∀ {kids : List α} {ks : List Int} {lo : Int}, KBs R lo ks kids hi → ks.length + 1 = kids.length
  | [], ks, _, h => by cases ks <;> exact h.elim
  | [k], [], _, h => rfl
  | _ :: _ :: _, [], _, h => h.elim
  | k :: kids, b :: ks, _, h => by
    have := KBs.len h.2
    simp only [List.length_cons]
    omega
/-- the pairs lie from lo on, below hi; keys between -/
def KeyB : (l : Nat) → Tr l → Int → Int → Prop
  | 0, t, lo, hi => ∀ q ∈ t.ps, lo ≤ q.1 ∧ q.1 < hi
  | l + 1, t, lo, hi => KBs (KeyB l) lo t.keys t.kids hi
/-- keys of nodes as they have to be -/
def KeyOk : (l : Nat) → Tr l → Prop
  | 0, _ => True
  | l + 1, t => t.keys.Pairwise (· < ·) ∧ (∀ k ∈ t.keys, 0 ≤ k ∧ k ≤ 1000000000) ∧ t.keys.length + 1 = t.kids.length ∧ ∀ k ∈ t.kids, KeyOk l k
/-- first comes the greater one -/
def Above (ps : List (Int × Int)) (x : Int) : Prop := ∀ q ∈ ps, x < q.1
def Below (ps : List (Int × Int)) (x : Int) : Prop := ∀ q ∈ ps, q.1 ≤ x
def All (lo hi : Int) (ps : List (Int × Int)) : Prop := ∀ q ∈ ps, lo ≤ q.1 ∧ q.1 < hi
theorem take_add' {α : Type} (xs : List α) (a b : Nat) : xs.take (a + b) = xs.take a ++ (xs.drop a).take b := by
  rw [List.take_add]
theorem cnt_pos {room : Nat} (hr : 3 ≤ room) : ∀ {l : Nat} {s : Sh l}, WfSh room l false s → 0 < cntS l s
  | 0, s, h => by
    have := h.1
    have e : loS room 0 false = (room + 1) / 2 := rfl
    rw [e] at this
    show 0 < s.n
    omega
  | l + 1, s, h => by
    obtain ⟨h1, h2, h3⟩ := h
    have e : loS room (l + 1) false = (room + 1) / 2 := rfl
    rw [e] at h1
    show 0 < (s.ks.map (cntS l)).sum
    cases c : s.ks with
    | nil =>
      rw [c] at h1
      simp only [List.length_nil] at h1
      omega
    | cons k ks =>
      have := cnt_pos hr (h3 k (by rw [c]; exact List.mem_cons_self ..))
      rw [List.map_cons, List.sum_cons]
      omega
theorem sum_more {α : Type} (f : α → Nat) {xs : List α} {i : Nat} {x : α} (h : xs[i]? = some x) : ((xs.take (i + 1)).map f).sum = ((xs.take i).map f).sum + f x := by
  rw [take_more h, List.map_append, List.sum_append]
  simp
theorem sum_part {α : Type} (f : α → Nat) (xs : List α) (i : Nat) : ((xs.take i).map f).sum ≤ (xs.map f).sum := by
  conv => rhs; rw [← List.take_append_drop i xs]
  rw [List.map_append, List.sum_append]
  omega
theorem sum_part1 {α : Type} (f : α → Nat) {xs : List α} {i : Nat} {x : α} (h : xs[i]? = some x) : ((xs.take i).map f).sum + f x ≤ (xs.map f).sum := by
  rw [← sum_more f h]
  exact sum_part f xs (i + 1)
theorem paired_take {α β : Type} {R : α → β → Prop} : ∀ {xs : List α} {ys : List β} (n : Nat), Paired R xs ys → Paired R (xs.take n) (ys.take n)
  | _, _, 0, _ => by rw [List.take_zero, List.take_zero]; exact .nil
  | _, _, _ + 1, .nil => .nil
  | _, _, n + 1, .cons r rs => .cons r (paired_take n rs)
theorem paired_drop {α β : Type} {R : α → β → Prop} : ∀ {xs : List α} {ys : List β} (n : Nat), Paired R xs ys → Paired R (xs.drop n) (ys.drop n)
  | _, _, 0, h => h
  | _, _, _ + 1, .nil => .nil
  | _, _, n + 1, .cons r rs => paired_drop n rs
theorem last_pick (last : Int) (qs : List (Int × Int)) (hs : qs.Pairwise fun a b => a.1 < b.1) (ha : Above qs last) : ∃ z, atI ([V.int last] ++ qs.map (fun q => V.int q.1)) (-1) = some (.int z) ∧ Below qs z ∧ last ≤ z ∧ (z = last ∨ ∃ q ∈ qs, z = q.1) := by
  rcases List.eq_nil_or_concat qs with rfl | ⟨r, q, rfl⟩
  · exact ⟨last, rfl, (fun q hq => nomatch hq), Int.le_refl _, .inl rfl⟩
  · rw [List.concat_eq_append] at hs ha ⊢
    have hm : q ∈ r ++ [q] := List.mem_append_right _ (List.mem_singleton.mpr rfl)
    refine ⟨q.1, ?_, fun y hy => ?_, Int.le_of_lt (ha q hm), .inr ⟨q, hm, rfl⟩⟩
    · refine at_last (n := r.length + 1) (by simp) ?_
      rw [List.map_append, ← List.append_assoc, List.getElem?_append_right (by simp)]
      simp
    · rcases List.mem_append.mp hy with hy | hy
      · exact Int.le_of_lt ((List.pairwise_append.mp hs).2.2 y hy q (List.mem_singleton.mpr rfl))
      · obtain rfl := List.mem_singleton.mp hy
        exact Int.le_refl _
/-- what is laid when a shape is gone through -/
structure Gen (l : Nat) (s : Sh l) (t : Tr l) (ps : List (Int × Int)) (ns : List Int) (D D' : List (Int × Pg)) (last last' : Int) : Prop where
  shape : shp l t = s
  pairs : prs l t = ps.take (cntS l s)
  number : nums l t = ns.take (pgsS l s)
  keys : (D'.map (·.1)).Perm (nums l t)
  laid : Laid (D ++ D') l t
  keyB : ∀ lo hi, All lo hi (ps.take (cntS l s)) → KeyB l t lo hi
  keyOk : KeyOk l t
  below : Below (ps.take (cntS l s)) last'
  above : Above (ps.drop (cntS l s)) last'
  le : last ≤ last'
  le9 : last' ≤ 1000000000
theorem Gen.num_head {l : Nat} {s : Sh l} {t : Tr l} {ps : List (Int × Int)} {ns : List Int} {D D' : List (Int × Pg)} {last last' : Int} (_ : Gen l s t ps ns D D' last last') : ∃ r, nums l t = num l t :: r := by
  cases l with
  | zero => exact ⟨[], rfl⟩
  | succ l => exact ⟨_, rfl⟩
/-! ### lists of whole numbers as data -/
theorem dpa_ints {K : PySem.W.Frag} {H : Hp} : ∀ ns : List Int, DpAll K H (ns.map V.int) (ns.map PyData.int)
  | [] => .nil
  | n :: ns => .cons (.int n) (dpa_ints ns)
theorem lay_ints : ∀ ns : List Int, PyData.canLayAll0 (ns.map PyData.int) = true
  | [] => by simp only [List.map_nil, PyData.canLayAll0]
  | n :: ns => by simp only [List.map_cons, PyData.canLayAll0, PyData.canLay0, lay_ints ns, Bool.and_self]
theorem deep_ints : ∀ ns : List Int, PyData.depthAll (ns.map PyData.int) = 0
  | [] => by simp only [List.map_nil, PyData.depthAll]
  | n :: ns => by simp only [List.map_cons, PyData.depthAll, PyData.depth, deep_ints ns, Nat.max_self]
theorem shaped_ints (ns : List Int) : SeqAt.shaped (.list (ns.map PyData.int)) = true := by
  unfold SeqAt.shaped
  simp only [PyData.canLay0, lay_ints ns, PyData.depth, deep_ints ns]
  decide
theorem eqv_intsA : ∀ a b : List Int, PyData.eqvAll (a.map PyData.int) (b.map PyData.int) = decide (a = b)
  | [], [] => by simp only [List.map_nil, PyData.eqvAll]; rfl
  | [], _ :: _ => by simp only [List.map_nil, List.map_cons, PyData.eqvAll]; rfl
  | _ :: _, [] => by simp only [List.map_nil, List.map_cons, PyData.eqvAll]; rfl
  | x :: a, y :: b => by
    simp only [List.map_cons, PyData.eqvAll, PyData.eqv, eqv_intsA a b]
    by_cases e : x = y
    · subst e
      simp
    · simp [e]
theorem eqv_ints (a b : List Int) : PyData.eqv (.list (a.map PyData.int)) (.list (b.map PyData.int)) = decide (a = b) := by
  simp only [PyData.eqv, eqv_intsA]
/-- the first kids -/
structure Mid (l : Nat) (s : List (Sh l)) (i : Nat) (ts : List (Tr l)) (ks : List Int) (ps : List (Int × Int)) (ns : List Int) (D D' : List (Int × Pg)) (last last' : Int) : Prop where
  shapes : ts.map (shp l) = s.take i
  pairs : ts.flatMap (prs l) = ps.take ((s.take i).map (cntS l)).sum
  number : ts.flatMap (nums l) = ns.take ((s.take i).map (pgsS l)).sum
  perm : (D'.map (·.1)).Perm (ts.flatMap (nums l))
  laid : ∀ t ∈ ts, Laid (D ++ D') l t
  kb : ∀ lo hi, i ≠ 0 → All lo hi (ps.take ((s.take i).map (cntS l)).sum) → KBs (KeyB l) lo ks ts hi
  empty : i = 0 → ks = []
  rising : ks.Pairwise (· < ·)
  range : ∀ x ∈ ks, 0 ≤ x ∧ x ≤ last'
  keyOk : ∀ t ∈ ts, KeyOk l t
  below : Below (ps.take ((s.take i).map (cntS l)).sum) last'
  above : Above (ps.drop ((s.take i).map (cntS l)).sum) last'
  le : last ≤ last'
  last0 : -1 ≤ last
  le9 : last' ≤ 1000000000
  few : ks.length ≤ i
theorem Mid.zero {l : Nat} {s : List (Sh l)} {ps : List (Int × Int)} {ns : List Int} {D : List (Int × Pg)} {last : Int} (ha : Above ps last) (h0 : -1 ≤ last) (h9 : last ≤ 1000000000) : Mid l s 0 [] [] ps ns D [] last last :=
  ⟨rfl, rfl, rfl, .nil, (fun _ h => nomatch h), (fun _ _ h => (h rfl).elim), fun _ => rfl, .nil, (fun _ h => nomatch h), (fun _ h => nomatch h), (fun _ h => nomatch h), ha, Int.le_refl _, h0, h9, Nat.le_refl _⟩
theorem Mid.step {l : Nat} {s : List (Sh l)} {i : Nat} {ts : List (Tr l)} {ks ks' : List Int} {ps : List (Int × Int)} {ns : List Int} {D D' D5 : List (Int × Pg)} {last last' last5 : Int} {k : Sh l} {t : Tr l}
    (h : Mid l s i ts ks ps ns D D' last last') (hk : s[i]? = some k)
    (hks : (i = 0 ∧ ks' = []) ∨ (i ≠ 0 ∧ ∃ a, ks' = ks ++ [a] ∧ last' < a ∧ ∀ q ∈ ps.drop ((s.take i).map (cntS l)).sum, a ≤ q.1))
    (g : Gen l k t (ps.drop ((s.take i).map (cntS l)).sum) (ns.drop ((s.take i).map (pgsS l)).sum) (D ++ D') D5 last' last5)
    (cp : 0 < cntS l k) (hm : ((s.take i).map (cntS l)).sum + cntS l k ≤ ps.length) : Mid l s (i + 1) (ts ++ [t]) ks' ps ns D (D' ++ D5) last last5 := by
  have le : last' ≤ last5 := g.le
  have ec := sum_more (cntS l) hk
  have ep := sum_more (pgsS l) hk
  have et : ps.take ((s.take (i + 1)).map (cntS l)).sum = ps.take ((s.take i).map (cntS l)).sum ++ (ps.drop ((s.take i).map (cntS l)).sum).take (cntS l k) := by rw [ec, List.take_add]
  have en : ns.take ((s.take (i + 1)).map (pgsS l)).sum = ns.take ((s.take i).map (pgsS l)).sum ++ (ns.drop ((s.take i).map (pgsS l)).sum).take (pgsS l k) := by rw [ep, List.take_add]
  have ed : ps.drop ((s.take (i + 1)).map (cntS l)).sum = (ps.drop ((s.take i).map (cntS l)).sum).drop (cntS l k) := by rw [ec, List.drop_drop]
  refine ⟨?_, ?_, ?_, ?_, ?_, ?_, ?_, ?_, ?_, ?_, ?_, ?_, Int.le_trans h.le le, h.last0, g.le9, ?_⟩
  · rw [List.map_append, h.shapes, take_more hk, ← g.shape]
    rfl
  · rw [List.flatMap_append, h.pairs, et, ← g.pairs]
    simp
  · rw [List.flatMap_append, h.number, en, ← g.number]
    simp
  · rw [List.map_append, List.flatMap_append]
    refine h.perm.append ?_
    rw [show [t].flatMap (nums l) = nums l t by simp]
    exact g.keys
  · intro u hu
    rw [← List.append_assoc]
    rcases List.mem_append.mp hu with hu | hu
    · exact (h.laid u hu).more
    · obtain rfl := List.mem_singleton.mp hu
      exact g.laid
  · intro lo hi _ hall
    rw [et] at hall
    rcases hks with ⟨e, rfl⟩ | ⟨e, a, rfl, h1, h2⟩
    · have : ts = [] := by
        have z := congrArg List.length h.shapes
        rw [List.length_map, e, List.take_zero] at z
        exact List.eq_nil_of_length_eq_zero z
      subst this
      exact g.keyB lo hi fun q hq => hall q (List.mem_append_right _ hq)
    · refine KBs.snoc (g.keyB a hi fun q hq => ⟨h2 q (List.mem_of_mem_take hq), (hall q (List.mem_append_right _ hq)).2⟩) (h.kb lo a e fun q hq => ⟨(hall q (List.mem_append_left _ hq)).1, ?_⟩)
      have := h.below q hq
      omega
  · intro e
    omega
  · rcases hks with ⟨e, rfl⟩ | ⟨e, a, rfl, h1, h2⟩
    · exact .nil
    · refine List.pairwise_append.mpr ⟨h.rising, List.pairwise_singleton _ _, fun x hx y hy => ?_⟩
      obtain rfl := List.mem_singleton.mp hy
      have := (h.range x hx).2
      omega
  · intro x hx
    rcases hks with ⟨e, rfl⟩ | ⟨e, a, rfl, h1, h2⟩
    · cases hx
    · rcases List.mem_append.mp hx with hx | hx
      · have := h.range x hx
        exact ⟨this.1, by omega⟩
      · obtain rfl := List.mem_singleton.mp hx
        have h3 := h.le
        have h4 := h.last0
        refine ⟨by omega, ?_⟩
        cases c : (ps.drop ((s.take i).map (cntS l)).sum).take (cntS l k) with
        | nil =>
          have z := congrArg List.length c
          rw [List.length_take, List.length_drop, List.length_nil] at z
          omega
        | cons q qs =>
          have hq : q ∈ (ps.drop ((s.take i).map (cntS l)).sum).take (cntS l k) := by rw [c]; exact List.mem_cons_self ..
          have z1 := h2 q (List.mem_of_mem_take hq)
          have z2 := g.below q hq
          omega
  · intro u hu
    rcases List.mem_append.mp hu with hu | hu
    · exact h.keyOk u hu
    · obtain rfl := List.mem_singleton.mp hu
      exact g.keyOk
  · rw [et]
    intro q hq
    rcases List.mem_append.mp hq with hq | hq
    · exact Int.le_trans (h.below q hq) le
    · exact g.below q hq
  · rw [ed]
    exact g.above
  · rcases hks with ⟨e, rfl⟩ | ⟨e, a, rfl, h1, h2⟩
    · exact Nat.zero_le _
    · have := h.few
      rw [List.length_append]
      show ks.length + 1 ≤ i + 1
      omega
theorem Mid.done {l : Nat} {s : Sh (l + 1)} {z : Int} {ts : List (Tr l)} {ks : List Int} {ps : List (Int × Int)} {ns : List Int} {D D' : List (Int × Pg)} {last last' : Int}
    (h : Mid l s.ks s.ks.length ts ks ps ns D D' last last') (hn : s.ks.length ≠ 0) (hall : All 0 1000000001 ps) (hz : lkp D z = none) (hz2 : z ∉ ns) :
    Gen (l + 1) s (ndT z ks ts) ps (z :: ns) D (D' ++ [(z, .node ks (ts.map (num l)))]) last last' := by
  have ec : cntS (l + 1) s = ((s.ks.take s.ks.length).map (cntS l)).sum := by rw [List.take_length]; rfl
  have ep : pgsS (l + 1) s = ((s.ks.take s.ks.length).map (pgsS l)).sum + 1 := by rw [List.take_length]; exact Nat.add_comm _ _
  have hkb : ∀ lo hi, All lo hi (ps.take (cntS (l + 1) s)) → KBs (KeyB l) lo ks ts hi := fun lo hi hl => h.kb lo hi hn (by rw [← ec]; exact hl)
  have hd' : lkp (D ++ D') z = none := lkp_none fun q hq e => by
    rcases List.mem_append.mp hq with hq | hq
    · exact lkp_ne hz q hq e
    · have m : q.1 ∈ ts.flatMap (nums l) := h.perm.mem_iff.mp (List.mem_map_of_mem hq)
      rw [h.number, e] at m
      exact hz2 (List.mem_of_mem_take m)
  refine ⟨?_, ?_, ?_, ?_, ⟨?_, ?_⟩, hkb, ⟨h.rising, fun k hk => ?_, ?_, h.keyOk⟩, ?_, ?_, h.le, h.le9⟩
  · have := h.shapes
    rw [List.take_length] at this
    exact this
  · rw [ec]
    exact h.pairs
  · rw [ep]
    show z :: ts.flatMap (nums l) = z :: ns.take _
    rw [h.number]
  · show ((D' ++ [(z, Pg.node ks (ts.map (num l)))]).map (·.1)).Perm (z :: ts.flatMap (nums l))
    rw [List.map_append]
    refine (List.perm_append_comm (l₁ := D'.map (·.1)) (l₂ := [z])).trans ?_
    exact List.Perm.cons z h.perm
  · rw [← List.append_assoc]
    exact lkp_end hd'
  · intro k hk
    rw [← List.append_assoc]
    exact (h.laid k hk).more
  · have a := h.range k hk
    have b := h.le9
    exact ⟨a.1, by omega⟩
  · exact (hkb 0 1000000001 fun q hq => hall q (List.mem_of_mem_take hq)).len
  · rw [ec]
    exact h.below
  · rw [ec]
    exact h.above
end TR

/-! ### leaves, their followers, the sorted pages -/
namespace TR
open PySem PySem.Spec PyProof.Rows L2 HX
def lvs : (l : Nat) → Tr l → List Int
  | 0, t => [num 0 t]
  | l + 1, t => t.kids.flatMap (lvs l)
theorem flatMap_sub {α β : Type} {f g : α → List β} : ∀ {xs : List α}, (∀ x ∈ xs, (f x).Sublist (g x)) → (xs.flatMap f).Sublist (xs.flatMap g)
  | [], _ => List.Sublist.refl _
  | x :: xs, h => by
    rw [List.flatMap_cons, List.flatMap_cons]
    exact (h x (List.mem_cons_self ..)).append (flatMap_sub fun y hy => h y (List.mem_cons_of_mem _ hy))
theorem lvs_sub : ∀ {l : Nat} {t : Tr l}, (lvs l t).Sublist (nums l t)
  | 0, _ => List.Sublist.refl _
  | l + 1, t => (flatMap_sub fun k _ => lvs_sub (l := l) (t := k)).trans (List.sublist_cons_self _ _)
theorem lvs_leaf {D : List (Int × Pg)} : ∀ {l : Nat} {t : Tr l}, Laid D l t → ∀ {n : Int}, n ∈ lvs l t → ∃ ps nx, lkp D n = some (.leaf ps nx)
  | 0, t, ⟨nx, h⟩, n, hn => by
    obtain rfl := List.mem_singleton.mp hn
    exact ⟨_, _, h⟩
  | l + 1, t, ⟨_, h⟩, n, hn => by
    obtain ⟨k, hk, hn⟩ := List.mem_flatMap.mp hn
    exact lvs_leaf (h k hk) hn
theorem lvs_len : ∀ {l : Nat} {t : Tr l}, (lvs l t).length ≤ (nums l t).length := lvs_sub.length_le
def setp (D : List (Int × Pg)) (k : Int) (g : Pg) : List (Int × Pg) := D.map fun q => if q.1 = k then (q.1, g) else q
theorem setp_keys (D : List (Int × Pg)) (k : Int) (g : Pg) : (setp D k g).map (·.1) = D.map (·.1) := by
  unfold setp
  rw [List.map_map]
  refine List.map_congr_left fun q _ => ?_
  show (if q.1 = k then (q.1, g) else q).1 = q.1
  split <;> rfl
theorem lkp_cons {q : Int × Pg} {D : List (Int × Pg)} {k : Int} : lkp (q :: D) k = if q.1 = k then some q.2 else lkp D k := by
  unfold lkp
  by_cases e : q.1 = k
  · rw [List.find?_cons_of_pos (by exact decide_eq_true e), if_pos e]
    rfl
  · rw [List.find?_cons_of_neg (by simpa using e), if_neg e]
theorem lkp_setp {k k' : Int} {g : Pg} : ∀ {D : List (Int × Pg)}, lkp (setp D k g) k' = if k' = k then (lkp D k).map (fun _ => g) else lkp D k'
  | [] => by
    show none = if k' = k then none else none
    split <;> rfl
  | q :: D => by
    have e : setp (q :: D) k g = (if q.1 = k then (q.1, g) else q) :: setp D k g := rfl
    rw [e, lkp_cons, lkp_setp, lkp_cons, lkp_cons]
    by_cases h : q.1 = k
    · rw [if_pos h]
      by_cases h2 : k' = k
      · rw [if_pos (show (q.1, g).1 = k' from h.trans h2.symm), if_pos h2, if_pos h]
        rfl
      · rw [if_neg (show ¬ (q.1, g).1 = k' from fun z => h2 (z.symm.trans h)), if_neg h2, if_neg h2, if_neg (fun z => h2 (z.symm.trans h))]
    · rw [if_neg h]
      by_cases h2 : k' = k
      · subst h2
        rw [if_neg h, if_pos rfl, if_pos rfl, if_neg h]
      · rw [if_neg h2, if_neg h2]
theorem lkp_setp_eq {D : List (Int × Pg)} {k : Int} {g x : Pg} (h : lkp D k = some x) : lkp (setp D k g) k = some g := by
  rw [lkp_setp, if_pos rfl, h]
  rfl
theorem lkp_setp_ne {D : List (Int × Pg)} {k k' : Int} {g : Pg} (h : k' ≠ k) : lkp (setp D k g) k' = lkp D k' := by rw [lkp_setp, if_neg h]
theorem Laid.setp {D : List (Int × Pg)} {k : Int} {ps : List (Int × Int)} {nx nx' : Int} (e : lkp D k = some (.leaf ps nx)) : ∀ {l : Nat} {t : Tr l}, Laid D l t → Laid (setp D k (.leaf ps nx')) l t
  | 0, t, ⟨m, h⟩ => by
    by_cases c : num 0 t = k
    · rw [c, e] at h
      injection h with h
      injection h with h1 h2
      exact ⟨nx', by rw [c, lkp_setp_eq e, h1]⟩
    · exact ⟨m, by rw [lkp_setp_ne c]; exact h⟩
  | l + 1, t, ⟨h, g⟩ => by
    have c : num (l + 1) t ≠ k := fun c => by
      rw [c, e] at h
      cases h
    exact ⟨by rw [lkp_setp_ne c]; exact h, fun x hx => Laid.setp e (g x hx)⟩
theorem Laid.congr {D S : List (Int × Pg)} (e : ∀ k, lkp S k = lkp D k) : ∀ {l : Nat} {t : Tr l}, Laid D l t → Laid S l t
  | 0, _, ⟨nx, h⟩ => ⟨nx, (e _).trans h⟩
  | _ + 1, _, ⟨h, g⟩ => ⟨(e _).trans h, fun k hk => (g k hk).congr e⟩
theorem nodup_at {α : Type} {L : List α} (nd : L.Nodup) {i j : Nat} {x : α} (h1 : L[i]? = some x) (h2 : L[j]? = some x) : i = j := by
  obtain ⟨a1, a2⟩ := List.getElem?_eq_some_iff.mp h1
  obtain ⟨b1, b2⟩ := List.getElem?_eq_some_iff.mp h2
  have z := List.pairwise_iff_getElem.mp nd
  rcases Nat.lt_trichotomy i j with h | h | h
  · exact (z i j a1 b1 h (a2.trans b2.symm)).elim
  · exact h
  · exact (z j i b1 a1 h (b2.trans a2.symm)).elim
/-- each leaf names the next one, the last one none -/
def NextOk (D : List (Int × Pg)) (L : List Int) (i : Nat) : Prop := ∀ j n, j < i → L[j]? = some n → ∃ ps, lkp D n = some (.leaf ps ((L[j + 1]?).getD 0))
theorem foll {L : List Int} {i : Nat} (h : i < L.length) : (L.drop 1 ++ [0])[i]? = some ((L[i + 1]?).getD 0) := by
  by_cases c : i + 1 < L.length
  · rw [List.getElem?_append_left (by rw [List.length_drop]; omega), List.getElem?_drop, Nat.add_comm 1 i, List.getElem?_eq_getElem c]
    rfl
  · rw [List.getElem?_append_right (by rw [List.length_drop]; omega), List.getElem?_eq_none (l := L) (by omega), List.length_drop, show i - (L.length - 1) = 0 by omega]
    rfl
theorem NextOk.step {D : List (Int × Pg)} {L : List Int} {i : Nat} {n : Int} {ps : List (Int × Int)} {nx : Int} (h : NextOk D L i) (nd : L.Nodup) (hn : L[i]? = some n) (e : lkp D n = some (.leaf ps nx)) : NextOk (setp D n (.leaf ps ((L[i + 1]?).getD 0))) L (i + 1) := fun j m hj hm => by
  by_cases c : j = i
  · subst c
    rw [hn] at hm
    cases hm
    exact ⟨ps, lkp_setp_eq e⟩
  · have ne : m ≠ n := fun q => by
      subst q
      exact c (nodup_at nd hm hn)
    obtain ⟨qs, hq⟩ := h j m (by omega) hm
    exact ⟨qs, by rw [lkp_setp_ne ne]; exact hq⟩
theorem lkp_mem {D : List (Int × Pg)} {k : Int} {g : Pg} (h : lkp D k = some g) : (k, g) ∈ D := by
  unfold lkp at h
  cases c : D.find? fun q => decide (q.1 = k) with
  | none => rw [c] at h; cases h
  | some x =>
    rw [c] at h
    have h1 := List.mem_of_find?_eq_some c
    have h2 : x.1 = k := of_decide_eq_true (List.find?_some (p := fun q : Int × Pg => decide (q.1 = k)) c)
    have h3 : x.2 = g := Option.some.inj h
    obtain ⟨a, b⟩ := x
    subst h2 h3
    exact h1
theorem mem_lkp {D : List (Int × Pg)} (nd : (D.map (·.1)).Nodup) {k : Int} {g : Pg} (h : (k, g) ∈ D) : lkp D k = some g := by
  induction D with
  | nil => cases h
  | cons q D ih =>
    rw [lkp_cons]
    rw [List.map_cons, List.nodup_cons] at nd
    rcases List.mem_cons.mp h with h | h
    · subst h
      rw [if_pos rfl]
    · rw [if_neg (fun e => nd.1 (by rw [e]; exact List.mem_map_of_mem h))]
      exact ih nd.2 h
theorem lkp_perm {D S : List (Int × Pg)} (nd : (D.map (·.1)).Nodup) (p : S.Perm D) (k : Int) : lkp S k = lkp D k := by
  have nd2 : (S.map (·.1)).Nodup := (p.map (·.1)).nodup_iff.mpr nd
  cases c : lkp D k with
  | some g => exact mem_lkp nd2 (p.mem_iff.mpr (lkp_mem c))
  | none =>
    refine lkp_none fun q hq e => ?_
    exact lkp_ne c q (p.mem_iff.mp hq) e
theorem paired_perm {α β : Type} {R : α → β → Prop} {xs xs' : List α} (p : xs'.Perm xs) : ∀ {ys : List β}, Paired R xs ys → ∃ ys', ys'.Perm ys ∧ Paired R xs' ys' := by
  induction p with
  | nil => exact fun h => ⟨_, .refl _, h⟩
  | cons x p ih =>
    intro ys h
    cases h with
    | cons r rs =>
      obtain ⟨ys', h1, h2⟩ := ih rs
      exact ⟨_, h1.cons _, .cons r h2⟩
  | swap x y l =>
    intro ys h
    cases h with
    | cons r rs =>
      cases rs with
      | cons r2 rs => exact ⟨_, .swap _ _ _, .cons r2 (.cons r rs)⟩
  | trans p1 p2 ih1 ih2 =>
    intro ys h
    obtain ⟨y1, h1, h2⟩ := ih2 h
    obtain ⟨y2, h3, h4⟩ := ih1 h2
    exact ⟨y2, h3.trans h1, h4⟩
/-- a sound tree, its pages by their numbers -/
structure Tree (room l : Nat) (t : Tr l) (S : List (Int × Pg)) : Prop where
  r3 : 3 ≤ room
  r8 : room ≤ 8
  wf : WfSh room l true (shp l t)
  nodup : (nums l t).Nodup
  range : ∀ k ∈ nums l t, 1 ≤ k ∧ k ≤ 1000000
  perm : (S.map (·.1)).Perm (nums l t)
  sorted : S.Pairwise fun a b => a.1 < b.1
  laid : Laid S l t
  next : NextOk S (lvs l t) (lvs l t).length
  keyB : KeyB l t 0 1000000001
  keyOk : KeyOk l t
  rising : (prs l t).Pairwise fun a b => a.1 < b.1
  good : ∀ q ∈ prs l t, 0 ≤ q.1 ∧ q.1 ≤ 1000000000 ∧ 0 ≤ q.2 ∧ q.2 ≤ 1000000000
  few : (nums l t).length ≤ 1000
end TR

/-! ### more rules -/
namespace RU
open PySem PySem.Spec PyProof.Rows L2 HX RZ
section
variable {X : Cx}
def rSeq (K : PySem.W.Frag) : V → Option Int → Option Int → Hp → VK → Prop := fun x lo hi H Q => rSlL K x lo hi H Q ∨ rSlA K x lo hi H Q
theorem sl_seq : SlR X (rSeq X.K) := SlR.or sl_list sl_tupA
end
theorem walk_zipT {K : PySem.W.Frag} {a b : Addr} {xs ys : List V} {n : Nat} (hn : n = min xs.length ys.length) : Walk (ItzT K a b) n (fun H => SqT K H a xs ∧ SqT K H b ys) (YPair (fun i => xs[i]?) (fun i => ys[i]?)) := by
  subst hn
  refine ⟨fun i _ hi q => ?_, fun _ q => ⟨xs, ys, q.1, q.2, by omega⟩, fun i H v H' _ q y => ?_⟩
  · have h1 : i < xs.length := by omega
    have h2 : i < ys.length := by omega
    exact ⟨xs, ys, xs[i], ys[i], q.1, q.2, by simp [h1], by simp [h2]⟩
  · obtain ⟨T, x, z, h1, h2, h3, h4, h5⟩ := y
    exact ⟨T, x, z, h1, h2, h3, h4 xs q.1, h5 ys q.2⟩
end RU
/-! ### zip of three tuples -/
namespace RU
open PySem PySem.Spec PyProof.Rows L2 HX RZ
def ItzT3 (K : PySem.W.Frag) (a b c : Addr) : It :=
  ⟨fun i H => ∃ (xs ys zs : List V), SqT K H a xs ∧ SqT K H b ys ∧ SqT K H c zs ∧ i < min (min xs.length ys.length) zs.length,
    fun i H v H' => ∃ T x y z, v = .ref T ∧ H T = none ∧ H' = upd H T (.tup [x, y, z]) ∧ (∀ xs, SqT K H a xs → xs[i]? = some x) ∧ (∀ ys, SqT K H b ys → ys[i]? = some y) ∧ ∀ zs, SqT K H c zs → zs[i]? = some z,
    fun i H => ∃ xs ys zs : List V, SqT K H a xs ∧ SqT K H b ys ∧ SqT K H c zs ∧ i = min (min xs.length ys.length) zs.length⟩
def Zn3 (z TI TO i1 i2 i3 a b c : Addr) (i : Nat) (h : Heap) : Prop := IsZip h z TI TO .none ∧ IsTupOf3 h TI (.ref i1) (.ref i2) (.ref i3) ∧ (∃ x y u, IsTupOf3 h TO x y u) ∧ h.IsTupleIter i1 a i ∧ h.IsTupleIter i2 b i ∧ h.IsTupleIter i3 c i
theorem turn_zip3 {P : Program} {w : World} {K : PySem.W.Frag} {elts : List Expr} {kk : Nat} {tpos : Pos} {a b c z TI TO i1 i2 i3 : Addr} (S : ZipSep3 z TI TO i1 i2 i3 [i1, a] [i2, b] [i3, c]) (na : a ≠ i1) (nb : b ≠ i2) (nc : c ≠ i3) :
    Turn P w K (.Tuple elts kk tpos) (ItzT3 K a b c) [z, TI, TO, i1, i2, i3] z (Zn3 z TI TO i1 i2 i3 a b c) where
  mem := by simp
  obj := fun i h st m hm => by
    obtain ⟨hz, hTI, ⟨x, y, u, hTO⟩, ⟨o1, e1, _, d1⟩, ⟨o2, e2, _, d2⟩, ⟨o3, e3, _, d3⟩⟩ := st
    have e' : m = z ∨ m = TI ∨ m = TO ∨ m = i1 ∨ m = i2 ∨ m = i3 := by simpa using hm
    rcases e' with q | q | q | q | q | q
    · rw [q]; exact ⟨_, hz, fun v q => nomatch q⟩
    · rw [q]; exact ⟨_, hTI, fun v q => nomatch q⟩
    · rw [q]; exact ⟨_, hTO, fun v q => nomatch q⟩
    · rw [q]; exact ⟨o1, e1, fun v q => by rw [d1] at q; cases q⟩
    · rw [q]; exact ⟨o2, e2, fun v q => by rw [d2] at q; cases q⟩
    · rw [q]; exact ⟨o3, e3, fun v q => by rw [d3] at q; cases q⟩
  keep := fun i h h' st k => by
    obtain ⟨hz, hTI, ⟨x, y, u, hTO⟩, h1, h2, h3⟩ := st
    exact ⟨k z (by simp) _ hz, k TI (by simp) _ hTI, ⟨x, y, u, k TO (by simp) _ hTO⟩, h1.at fun o q => k i1 (by simp) o q, h2.at fun o q => k i2 (by simp) o q, h3.at fun o q => k i3 (by simp) o q⟩
  item := by
    intro X hP hw hK hc i pins s σ H E I hf st hg
    subst hP hw hK
    obtain ⟨hz, hTI, hTO, h1, h2, h3⟩ := st
    obtain ⟨xs, ys, zs, hqx, hqy, hqz, hlt⟩ := hg
    obtain ⟨its, rv, p, _⟩ := I.tuple hqx
    obtain ⟨its2, rv2, p2, _⟩ := I.tuple hqy
    obtain ⟨its3, rv3, p3, _⟩ := I.tuple hqz
    have hh : X.A.handled = none := I.ok.hd hc
    have W := GoesN.zip3 (prog := X.prog) (w := X.w) (A := X.A) (elts := elts) (x1 := kk) (pos := tpos) S (Draws.tuple (A := X.A.in1) hh i1 a na its.toArray) (Draws.tuple (A := X.A.in1) hh i2 b nb its2.toArray) (Draws.tuple (A := X.A.in1) hh i3 c nc its3.toArray)
    have l1 := rv.length
    have l2 := rv2.length
    have l3 := rv3.length
    refine W.goes i s (fun u s2 => ∃ x H', Inv X pins σ H' s2 ∧ RelV x u ∧ (ItzT3 X.K a b c).yld i H x H' ∧ Zn3 z TI TO i1 i2 i3 a b c (i + 1) s2.heap ∧ ∀ b ∈ [z, TI, TO, i1, i2, i3], H' b = none) E (by simp only [List.size_toArray]; omega) ⟨hz, hTI, hTO, ⟨h1, p⟩, ⟨h2, p2⟩, ⟨h3, p3⟩⟩ fun v h' tk hY st' hk htk => ?_
    obtain ⟨T, u1, u2, u3, rfl, hT, e1, e2, e3, hTt⟩ := hY
    have hx : xs[i]? = some (xs[i]'(by omega)) := List.getElem?_eq_getElem (by omega)
    have hy : ys[i]? = some (ys[i]'(by omega)) := List.getElem?_eq_getElem (by omega)
    have hw' : zs[i]? = some (zs[i]'(by omega)) := List.getElem?_eq_getElem (by omega)
    obtain ⟨v1, hu1, r1⟩ := rv.get hx
    obtain ⟨v2, hu2, r2⟩ := rv2.get hy
    obtain ⟨v3, hu3, r3⟩ := rv3.get hw'
    have q1 : v1 = u1 := by
      have : its.toArray[i]? = some v1 := by simpa using hu1
      rw [this] at e1
      exact Option.some.inj e1
    have q2 : v2 = u2 := by
      have : its2.toArray[i]? = some v2 := by simpa using hu2
      rw [this] at e2
      exact Option.some.inj e2
    have q3 : v3 = u3 := by
      have : its3.toArray[i]? = some v3 := by simpa using hu3
      rw [this] at e3
      exact Option.some.inj e3
    subst q1 q2 q3
    have new : ObjOk X.prog X.w (upd H T (.tup [xs[i]'(by omega), ys[i]'(by omega), zs[i]'(by omega)])) h' T (.tup [xs[i]'(by omega), ys[i]'(by omega), zs[i]'(by omega)]) := ⟨by show 3 ≤ sizeLine; decide, [v1, v2, v3], .cons r1 (.cons r2 (.cons r3 .nil)), hTt⟩
    have hf' : ∀ m ∈ [z, TO, i1, i2, i3], FpOk X pins H m := fun m hm => hf m (by
      have e' : m = z ∨ m = TO ∨ m = i1 ∨ m = i2 ∨ m = i3 := by simpa using hm
      rcases e' with q | q | q | q | q <;> simp [q])
    have I1 := I.turnedNew (t' := tk) (ch := [z, TO, i1, i2, i3]) hk hf' hT new
    refine ⟨.ref T, _, I1, rfl, ⟨T, _, _, _, rfl, I.hok.fresh hT, rfl, fun l hl => by rw [I.tuple_inj hl hqx]; exact hx, fun l hl => by rw [I.tuple_inj hl hqy]; exact hy, fun l hl => by rw [I.tuple_inj hl hqz]; exact hw'⟩, ⟨st'.1, st'.2.1, st'.2.2.1, st'.2.2.2.1.1, st'.2.2.2.2.1.1, st'.2.2.2.2.2.1⟩, fun m hm => ?_⟩
    have e' : m = z ∨ m = TI ∨ m = TO ∨ m = i1 ∨ m = i2 ∨ m = i3 := by simpa using hm
    have hlt2 : m < s.heap.objs.size := by
      obtain ⟨x, y, u, hTO⟩ := hTO
      rcases e' with q | q | q | q | q | q
      · rw [q]; exact Heap.lt_size hz
      · rw [q]; exact Heap.lt_size hTI
      · rw [q]; exact Heap.lt_size hTO
      · rw [q]; obtain ⟨_, e1, _⟩ := h1; exact Heap.lt_size e1
      · rw [q]; obtain ⟨_, e2, _⟩ := h2; exact Heap.lt_size e2
      · rw [q]; obtain ⟨_, e3, _⟩ := h3; exact Heap.lt_size e3
    rw [upd_ne (Nat.ne_of_lt (Nat.lt_of_lt_of_le hlt2 hT))]
    exact (hf m hm).1
  done := by
    intro X hP hw hK hc i pins s σ H E I hf st hg
    subst hP hw hK
    obtain ⟨hz, hTI, hTO, h1, h2, h3⟩ := st
    obtain ⟨xs, ys, zs, hqx, hqy, hqz, hend⟩ := hg
    obtain ⟨its, rv, p, _⟩ := I.tuple hqx
    obtain ⟨its2, rv2, p2, _⟩ := I.tuple hqy
    obtain ⟨its3, rv3, p3, _⟩ := I.tuple hqz
    have hh : X.A.handled = none := I.ok.hd hc
    have W := GoesN.zip3 (prog := X.prog) (w := X.w) (A := X.A) (elts := elts) (x1 := kk) (pos := tpos) S (Draws.tuple (A := X.A.in1) hh i1 a na its.toArray) (Draws.tuple (A := X.A.in1) hh i2 b nb its2.toArray) (Draws.tuple (A := X.A.in1) hh i3 c nc its3.toArray)
    have l1 := rv.length
    have l2 := rv2.length
    have l3 := rv3.length
    have en : i = min (min its.toArray.size its2.toArray.size) its3.toArray.size := by simp only [List.size_toArray]; omega
    subst en
    have hf' : ∀ m ∈ [z, TO, i1, i2, i3], FpOk X pins H m := fun m hm => hf m (by
      have e' : m = z ∨ m = TO ∨ m = i1 ∨ m = i2 ∨ m = i3 := by simpa using hm
      rcases e' with q | q | q | q | q <;> simp [q])
    exact W.stops s (fun s1 => Inv X pins σ H s1) E ⟨hz, hTI, hTO, ⟨h1, p⟩, ⟨h2, p2⟩, ⟨h3, p3⟩⟩ fun h' tk hk htk => I.turnedL (t' := tk) (ch := [z, TO, i1, i2, i3]) hk hf'
  self := fun A i s Q E st h => wpAny_pyIter_zip st.1 h
def iZip3 (K : PySem.W.Frag) (ta : TA) : TI := fun σ H R => ta σ H fun vs H1 => ∃ a b c xs ys zs, vs = [.ref a, .ref b, .ref c] ∧ SqT K H1 a xs ∧ SqT K H1 b ys ∧ SqT K H1 c zs ∧ R (ItzT3 K a b c) H1
theorem pi_zip3 {X : Cx} {e e2 e3 : Expr} {ta : TA} {p pos tpos : Pos} {elts : List Expr} {kk : Nat} (hg : Gl X "zip") (hm : X.mg "zip" = none) (ha : PA X [e, e2, e3] ta)
    (hs : starEach [e, e2, e3] X.env = (false, eval e X.env) :: starEach [e2, e3] X.env := by rfl) (hpl : (backTo pos (starEach [e2, e3] X.env)).any (·.1) = false := by rfl) :
    PI X (.Tuple elts kk tpos) (.Call (.Name "zip" p) [e, e2, e3] [] pos) (iZip3 X.K ta) := by
  refine ⟨fun pins s σ H R I h => ?_⟩
  refine Call_ (ld_blt I hg hm PyProof.Rows.boot_zip (PyProof.Rows.callWith_type1 (thn (ha.run pos pins s σ H _ I h) fun us s1 ⟨vs, H1, I1, r1, q1⟩ => ?_) hs hpl))
  obtain ⟨a, b, c, xs, ys, zs, ex, hqx, hqy, hqz, q⟩ := q1
  subst ex
  cases r1 with
  | cons r rr =>
    cases rr with
    | cons r' rr =>
      cases rr with
      | cons r'' rr =>
        cases rr
        cases r
        cases r'
        cases r''
        have fresh6 : ∀ m, m ∈ [s1.heap.objs.size + 5, s1.heap.objs.size + 3, s1.heap.objs.size + 4, s1.heap.objs.size, s1.heap.objs.size + 1, s1.heap.objs.size + 2] → FpOk X pins H1 m := fun m hcm => by
          have e' : m = s1.heap.objs.size + 5 ∨ m = s1.heap.objs.size + 3 ∨ m = s1.heap.objs.size + 4 ∨ m = s1.heap.objs.size ∨ m = s1.heap.objs.size + 1 ∨ m = s1.heap.objs.size + 2 := by simpa using hcm
          have hle : s1.heap.objs.size ≤ m := by
            rcases e' with z | z | z | z | z | z
            · rw [z]; exact Nat.le_add_right _ _
            · rw [z]; exact Nat.le_add_right _ _
            · rw [z]; exact Nat.le_add_right _ _
            · rw [z]; exact Nat.le_refl _
            · rw [z]; exact Nat.le_add_right _ _
            · rw [z]; exact Nat.le_add_right _ _
          exact I1.fpOk hle (I1.hok.fresh hle)
        obtain ⟨its, rv, p1, _⟩ := I1.tuple hqx
        obtain ⟨its2, rv2, p2, _⟩ := I1.tuple hqy
        obtain ⟨its3, rv3, p3, _⟩ := I1.tuple hqz
        obtain ⟨o1, ho1, _⟩ := id p1
        obtain ⟨o2, ho2, _⟩ := id p2
        obtain ⟨o3, ho3, _⟩ := id p3
        have la := Heap.lt_size ho1
        have lb := Heap.lt_size ho2
        have lc := Heap.lt_size ho3
        refine zip_begins3 (begins_tuple a its.toArray) (begins_tuple b its2.toArray) (begins_tuple c its3.toArray) p1 p2 p3 fun h' hz hTI hTO h1 h2 h3 hsz hk => wpAny_pyIter_zip hz ?_
        have I2 : Inv X pins σ H1 { s1 with heap := h' } := I1.kept (t' := s1.toks) hk
        have S : ZipSep3 (s1.heap.objs.size + 5) (s1.heap.objs.size + 3) (s1.heap.objs.size + 4) s1.heap.objs.size (s1.heap.objs.size + 1) (s1.heap.objs.size + 2) [s1.heap.objs.size, a] [s1.heap.objs.size + 1, b] [s1.heap.objs.size + 2, c] :=
          zip_sep3 (fun m hm => by rw [List.mem_singleton.mp hm]; exact la) (fun m hm => by rw [List.mem_singleton.mp hm]; exact lb) (fun m hm => by rw [List.mem_singleton.mp hm]; exact lc)
        exact ⟨s1.heap.objs.size + 5, [s1.heap.objs.size + 5, s1.heap.objs.size + 3, s1.heap.objs.size + 4, s1.heap.objs.size, s1.heap.objs.size + 1, s1.heap.objs.size + 2], _, _, H1, rfl, I2,
          turn_zip3 S (Nat.ne_of_lt la) (Nat.ne_of_lt (Nat.lt_of_lt_of_le lb (Nat.le_add_right _ _))) (Nat.ne_of_lt (Nat.lt_of_lt_of_le lc (Nat.le_add_right _ _))), ⟨hz, hTI, ⟨_, _, _, hTO⟩, ⟨_, h1, rfl, rfl⟩, ⟨_, h2, rfl, rfl⟩, ⟨_, h3, rfl, rfl⟩⟩, fresh6, q⟩
def YTrip (xs ys zs : Nat → Option V) : Nat → Hp → V → Hp → Prop := fun i H v H' => ∃ T x y z, v = .ref T ∧ H T = none ∧ H' = upd H T (.tup [x, y, z]) ∧ xs i = some x ∧ ys i = some y ∧ zs i = some z
theorem walk_zip3 {K : PySem.W.Frag} {a b c : Addr} {xs ys zs : List V} {n : Nat} (hn : n = min (min xs.length ys.length) zs.length) : Walk (ItzT3 K a b c) n (fun H => SqT K H a xs ∧ SqT K H b ys ∧ SqT K H c zs) (YTrip (fun i => xs[i]?) (fun i => ys[i]?) (fun i => zs[i]?)) := by
  subst hn
  refine ⟨fun i _ hi q => ⟨xs, ys, zs, q.1, q.2.1, q.2.2, hi⟩, fun _ q => ⟨xs, ys, zs, q.1, q.2.1, q.2.2, rfl⟩, fun i H v H' _ q y => ?_⟩
  obtain ⟨T, x, y1, z, h1, h2, h3, h4, h5, h6⟩ := y
  exact ⟨T, x, y1, z, h1, h2, h3, h4 xs q.1, h5 ys q.2.1, h6 zs q.2.2⟩
end RU

/-! ### dict of a tuple of pairs; fields as targets -/
namespace RU
open PySem PySem.Spec PyProof.Rows L2 HX RZ
section
variable {X : Cx} {pins : List (Addr × Obj)}
/-- tuple(xs) of a list: a new tuple, of which one knows that it has no dict -/
theorem call_tupF : CallR X (.type "tuple") (fun xs H Q => ∃ p ys, xs = [.ref p] ∧ SqL X.K H p ys ∧ ∀ l o, H l = none → o.dict = none → Q (.ref l) (upd H l (.frz o (.tup ys)))) := by
  intro pins s σ H xs us Q I r h
  obtain ⟨p, ys, rfl, hq, q⟩ := h
  obtain ⟨u, rfl, rx⟩ := vals1 r
  cases rx
  obtain ⟨its, r', pl, hz⟩ := I.list hq
  have hlen := r'.length
  refine call_tuple_list pl.isList (fun h' kp => ?_) (by simp only [List.size_toArray] <;> omega)
  have I1 : Inv X pins σ H { s with heap := h' } := I.kept (t' := s.toks) kp
  have I2 : Inv X pins σ (upd H h'.objs.size (.frz { cls := .type "tuple", data := .seq its.toArray } (.tup ys))) { s with heap := h'.push { cls := .type "tuple", data := .seq its.toArray } } :=
    I1.laid (t' := s.toks) (fun b o e => Heap.get?_push_of_some _ e) (Nat.le_refl _) (show ObjOk X.prog X.w _ _ _ (.frz _ (.tup ys)) from ⟨Heap.get?_push_size _ rfl, hz, its, r', IsTup.new _ _⟩)
  exact ⟨.ref h'.objs.size, _, I2, rfl, q _ _ (I1.hok.fresh (Nat.le_refl _)) rfl⟩
theorem pairs_of2 {pins : List (Addr × Obj)} {σ : L2.St} {H : Hp} {s : Shared} (I : Inv X pins σ H s) : ∀ {ps : List Addr} {kvs : List (Key × V)}, Paired (fun p kv => SqT X.K H p [kV kv.1, kv.2]) ps kvs →
    ∃ (prs : List (Key × Value)) (pv : List (Value × Value)), KV kvs prs ∧ prs.length = ps.length ∧ pv.length = ps.length ∧ ∀ (j : Nat) (k v : Value), pv[j]? = some (k, v) → ∃ (b : Addr) (key : Key), ps[j]? = some b ∧ IsTup s.heap b #[k, v] ∧ prs[j]? = some (key, v) ∧ keyIs key k = true
  | _, _, .nil => ⟨[], [], .nil, rfl, rfl, fun j k v e => by simp at e⟩
  | _, _, .cons (a := p) (b := kv) h t => by
    obtain ⟨prs, pv, r, hl, hl2, hp⟩ := pairs_of2 I t
    obtain ⟨its, rv, ht, _⟩ := I.tuple h
    obtain ⟨u, y, ei, ru, ry⟩ := vals2 rv
    subst ei
    refine ⟨(kv.1, y) :: prs, (u, y) :: pv, .cons ⟨rfl, ry⟩ r, by rw [List.length_cons, List.length_cons, hl], by rw [List.length_cons, List.length_cons, hl2], fun j k v e => ?_⟩
    cases j with
    | zero =>
      have e' : (u, y) = (k, v) := Option.some.inj e
      injection e' with e1 e2
      subst e1 e2
      exact ⟨p, kv.1, rfl, ht, rfl, kV_is (P := X.prog) (w := X.w) ru⟩
    | succ j =>
      obtain ⟨b, key, e1, e2, e3, e4⟩ := hp j k v (by simpa using e)
      exact ⟨b, key, by simpa using e1, e2, by simpa using e3, e4⟩
def rDictT (K : PySem.W.Frag) : List V → Hp → VK → Prop := fun xs H Q => ∃ (a : Addr) (o : Obj) (ps : List Addr) (kvs : List (Key × V)), xs = [.ref a] ∧ H a = some (.frz o (.tup (ps.map V.ref))) ∧ o.dict = none ∧ Paired (fun p kv => SqT K H p [kV kv.1, kv.2]) ps kvs ∧
  ∀ p, H p = none → Q (.ref p) (upd H p (.dK (mergeK [] kvs)))
theorem call_dictT (hcalm : X.calm = true) : CallR X (.type "dict") (rDictT X.K) := by
  intro pins s σ H xs us Q I r q
  obtain ⟨a, o, ps, kvs, ex, ha, hdo, hp, q⟩ := q
  subst ex
  obtain ⟨u, eu, rx⟩ := vals1 r
  subst eu
  cases rx
  have ok : ObjOk X.prog X.w H s.heap a (.frz o (.tup (ps.map V.ref))) := I.hok a _ ha
  obtain ⟨hg, hz, its, rv, o', hg', hc, n, hd⟩ := ok
  rw [hg] at hg'
  cases hg'
  have ei := refs_at rv
  subst ei
  obtain ⟨prs, pv, rel, hl, hl2, hpr⟩ := pairs_of2 I hp
  rw [List.length_map] at hz
  have hitems : PairItems s.heap (ps.map Value.ref).toArray (fun j => (ps[j]?).getD 0) pv := by
    refine ⟨by simp [hl2], fun j k v e => ?_⟩
    obtain ⟨b, key, e1, e2, _⟩ := hpr j k v e
    refine ⟨by simp [e1], .inl ?_⟩
    show s.heap.IsTuple (ps[j]?.getD 0) #[k, v]
    rw [e1]
    exact e2
  refine PySem.call_dict_pairs (knd := mixKind X.prog X.w) (kvs := prs) (PairArg.tuple a (ps.map Value.ref).toArray (fun j => (ps[j]?).getD 0) pv) (I.ok.hd hcalm) ⟨⟨o, n, hg, hc, hdo, hd⟩, hitems⟩ ?_ (by rw [hl2]; exact hz) fun h' tk hd' k => ?_
  · refine ⟨by rw [hl, hl2], fun i key v hr => ?_⟩
    obtain ⟨b, kk, _, _, e3, e4⟩ := hpr i key v hr
    exact ⟨kk, e3, e4⟩
  · have hm : (s.heap.objs.size == sysModules) = false := beq_eq_false_iff_ne.mpr (Nat.ne_of_gt I.big)
    have hlen : (mergeK [] kvs).length ≤ sizeLine := by
      refine Nat.le_trans (length_mergeK kvs []) ?_
      rw [List.length_nil, Nat.zero_add, rel.length, hl]
      exact hz
    exact ⟨.ref s.heap.objs.size, upd H s.heap.objs.size (.dK (mergeK [] kvs)), I.laid (t' := tk) (fun b o e => k b o (by simp) e) (Nat.le_refl _) (show ObjOk X.prog X.w _ _ _ (.dK (mergeK [] kvs)) from ⟨hlen, hm, merged [] prs, KV.merge rel .nil, hd'⟩), rfl, q _ (I.hok.fresh (Nat.le_refl _))⟩
/-- o.f, to which a part is given -/
def gFld (K : PySem.W.Frag) (ta : TE) (f : Str) : TG := fun y σ H Q => ta σ H fun x H2 => ∃ a C dx fs, x = .ref a ∧ H2 a = some (.ins C dx fs) ∧ Cls K C ∧ NoAttr K C f ∧ fs.length < 1000 ∧ Q σ (upd H2 a (.ins C dx (putF f y fs)))
theorem pg_fld {o : Expr} {f : Str} {pos' : Pos} {ta : TE} (ha : PE X o ta) : PG X (.Attribute o f pos') (gFld X.K ta f) := by
  refine ⟨fun pins s σ H v u Q I r h => ?_⟩
  rw [assign_Attribute]
  refine wpAny_bind (wpAny_holding (thn (ha.run pins s σ H _ I h) fun ov s1 ⟨x, H1, I1, r1, a, C, dx, fs, ex, ea, c, n, l, q⟩ => ?_))
  subst ex
  obtain rfl : ov = Value.ref a := r1
  refine wpAny_bind (wpAny_standAt (wpAny_bind (wpAny_holding (setattr_ok I1 ea c n l r fun s2 I2 => ?_))))
  exact wpAny_release ⟨σ, _, I2, q⟩
end
theorem putK_new {kvs : List (Key × V)} {k : Key} {v : V} (h : ∀ q ∈ kvs, q.1 ≠ k) : putK kvs k v = kvs ++ [(k, v)] := by
  unfold putK
  rw [if_neg]
  intro z
  obtain ⟨x, hx, hx2⟩ := List.any_eq_true.mp z
  exact h x hx (of_decide_eq_true hx2)
theorem mergeK_nodup : ∀ {more kvs : List (Key × V)}, ((kvs ++ more).map (·.1)).Nodup → mergeK kvs more = kvs ++ more
  | [], kvs, _ => (List.append_nil kvs).symm
  | p :: more, kvs, h => by
    have e : mergeK kvs (p :: more) = mergeK (putK kvs p.1 p.2) more := rfl
    have hn : ∀ q ∈ kvs, q.1 ≠ p.1 := fun q hq e => by
      rw [List.map_append, List.map_cons] at h
      exact (List.nodup_append.mp h).2.2 q.1 (List.mem_map_of_mem hq) p.1 (List.mem_cons_self ..) e
    rw [e, putK_new hn, mergeK_nodup (by rw [List.append_assoc]; exact h), List.append_assoc]
    rfl
/-- a walk whose body says by itself where it goes on -/
theorem out_it {J : It} {n : Nat} {G : Hp → Prop} {Y : Nat → Hp → V → Hp → Prop} (w : Walk J n G Y) {H0 : Hp} {body : V → Hp → (Hp → Prop) → Prop} {Qd : Hp → Prop} (Pv : Nat → Hp → Prop) (h0 : Pv 0 H0) (hG : ∀ i H, i ≤ n → Pv i H → G H)
    (hs : ∀ i x H H', i < n → Pv i H → Y i H x H' → body x H' (Pv (i + 1))) (hd : ∀ H, Pv n H → Qd H) :
    ∃ W : Nat → Nat → Hp → Prop, (∃ m, W 0 m H0) ∧ ∀ i m H, W i m H → (J.stop i H ∧ Qd H) ∨ (J.go i H ∧ ∃ Nx : Hp → Prop, (∀ H', Nx H' → ∃ m', m' < m ∧ W (i + 1) m' H') ∧ ∀ x H', J.yld i H x H' → body x H' Nx) := by
  refine ⟨fun i m H => m = n - i ∧ i ≤ n ∧ Pv i H, ⟨n, by simp, Nat.zero_le _, h0⟩, ?_⟩
  rintro i m H ⟨rfl, hi, p⟩
  have q := hG i H hi p
  by_cases hlt : i < n
  · refine .inr ⟨w.goes i H hlt q, Pv (i + 1), fun H' p' => ⟨n - (i + 1), by omega, rfl, hlt, p'⟩, fun x H' y => hs i x H H' hlt p (w.yields i H x H' hlt q y)⟩
  · have e : i = n := by omega
    subst e
    exact .inl ⟨w.stops H q, hd H p⟩
/-- {k: v} -/
theorem pe_dict1 {X : Cx} {k v : Expr} {tk tv : TE} {pos : Pos} (hk : PE X k tk) (hv : PE X v tv) : PE X (.Dict [some k] [v] pos) (tDisp [(tk, tv)]) :=
  pe_disp (pps_cons hk hv pps_nil) rfl rfl (by simp) (by simp)
theorem pi_tupK {X : Cx} (K : PySem.W.Frag) {tg l : Expr} {tl : TE} (hl : PE X l tl) (h : X.K = K := by rfl) : PI X tg l (iTup K tl) := by
  subst h
  exact pi_tup hl
end RU

/-! ### rows of a tree -/
namespace TR
open PySem PySem.Spec PyProof.Rows L2 HX
def kidsF {m : Nat} (F : List (Tr (m + 1))) : List (Tr m) := F.flatMap Tr.kids
def rows : (m : Nat) → List (Tr m) → List (List Int)
  | 0, F => [F.map (num 0)]
  | m + 1, F => F.map (num (m + 1)) :: rows m (kidsF F)
theorem rows_cons : ∀ {m : Nat} (F : List (Tr m)), ∃ r, rows m F = F.map (num m) :: r
  | 0, _ => ⟨[], rfl⟩
  | _ + 1, _ => ⟨_, rfl⟩
theorem flat_cons {α β : Type} (f : α → β) (g : α → List β) : ∀ F : List α, (F.flatMap fun t => f t :: g t).Perm (F.map f ++ F.flatMap g)
  | [] => .refl _
  | a :: F => by
    rw [List.flatMap_cons, List.map_cons, List.flatMap_cons, List.cons_append, List.cons_append]
    refine List.Perm.cons _ ?_
    refine ((flat_cons f g F).append_left (g a)).trans ?_
    rw [← List.append_assoc, ← List.append_assoc]
    exact (List.perm_append_comm).append_right _
theorem rows_perm : ∀ {m : Nat} (F : List (Tr m)), (rows m F).flatten.Perm (F.flatMap (nums m))
  | 0, F => by
    have e : F.flatMap (nums 0) = F.map (num 0) := by
      have : nums 0 = fun t => [num 0 t] := rfl
      rw [this]
      induction F with
      | nil => rfl
      | cons a F ih => rw [List.flatMap_cons, ih]; rfl
    rw [e]
    show ([F.map (num 0)] : List (List Int)).flatten.Perm _
    rw [List.flatten_cons, List.flatten_nil, List.append_nil]
  | m + 1, F => by
    have e : F.flatMap (nums (m + 1)) = F.flatMap (fun t => num (m + 1) t :: t.kids.flatMap (nums m)) := rfl
    rw [e]
    refine List.Perm.trans ?_ (flat_cons _ _ F).symm
    show (F.map (num (m + 1)) :: rows m (kidsF F)).flatten.Perm _
    rw [List.flatten_cons]
    refine List.Perm.append_left _ ((rows_perm (kidsF F)).trans ?_)
    unfold kidsF
    rw [List.flatMap_assoc]
theorem rows_last : ∀ {m : Nat} (F : List (Tr m)), (rows m F).getLast? = some (F.flatMap (lvs m))
  | 0, F => by
    have e : F.flatMap (lvs 0) = F.map (num 0) := by
      have : lvs 0 = fun t => [num 0 t] := rfl
      rw [this]
      induction F with
      | nil => rfl
      | cons a F ih => rw [List.flatMap_cons, ih]; rfl
    rw [e]
    rfl
  | m + 1, F => by
    obtain ⟨r, hr⟩ := rows_cons (kidsF F)
    have ih := rows_last (kidsF F)
    show (F.map (num (m + 1)) :: rows m (kidsF F)).getLast? = _
    rw [hr] at ih ⊢
    rw [List.getLast?_cons_cons, ih]
    unfold kidsF
    rw [List.flatMap_assoc]
    rfl
theorem rows_len : ∀ {m : Nat} (F : List (Tr m)), (rows m F).length = m + 1
  | 0, _ => rfl
  | m + 1, F => by
    show (rows m (kidsF F)).length + 1 = _
    rw [rows_len]
end TR

/-! ### repr of data; the promise of a def around which nothing is being shown -/
namespace RP
open PySem PySem.Spec PyProof.Rows L2 HX RZ
/-- data whose text is short: of weight n, depth k at most -/
structure Nice (d : PyData) (n k : Nat) : Prop where
  sh : d.showable = true
  nd : d.hasDict = false
  ls : d.leavesShort 13 = true
  wt : d.weight ≤ n
  dp : d.depth ≤ k
theorem Nice.le {d : PyData} {n k n' k' : Nat} (h : Nice d n k) (a : n ≤ n') (b : k ≤ k') : Nice d n' k' := ⟨h.sh, h.nd, h.ls, Nat.le_trans h.wt a, Nat.le_trans h.dp b⟩
theorem nice_int {i : Int} (h1 : -999999999999 ≤ i) (h2 : i ≤ 999999999999) : Nice (.int i) 40 0 := by
  have hl : i.natAbs.log2 < 40 := by
    by_cases z : i.natAbs = 0
    · rw [z]; decide
    · exact (Nat.log2_lt z).mpr (by omega)
  refine ⟨?_, rfl, ?_, ?_, Nat.le_refl 0⟩
  · show decide (i.natAbs.log2 < 1920) = true
    exact decide_eq_true (by omega)
  · show decide ((PyData.shown (.int i)).length ≤ 13) = true
    exact decide_eq_true (PyData.shown_int_le2 h1 h2)
  · show (if (i == 0) = true then 0 else i.natAbs.log2 + 1) ≤ 40
    split <;> omega
theorem nice_rows {n k : Nat} : ∀ {ds : List PyData}, (∀ d ∈ ds, Nice d n k) → PyData.showableAll ds = true ∧ PyData.hasDictAll ds = false ∧ PyData.leavesShortAll 13 ds = true ∧ PyData.weightAll ds ≤ ds.length * (n + 1) ∧ PyData.depthAll ds ≤ k
  | [], _ => ⟨rfl, rfl, rfl, Nat.zero_le _, Nat.zero_le _⟩
  | d :: ds, h => by
    have a := h d (List.mem_cons_self ..)
    obtain ⟨b1, b2, b3, b4, b5⟩ := nice_rows (n := n) (k := k) (ds := ds) fun x hx => h x (List.mem_cons_of_mem _ hx)
    refine ⟨?_, ?_, ?_, ?_, ?_⟩
    · show (d.showable && PyData.showableAll ds) = true
      rw [a.sh, b1]; rfl
    · show (d.hasDict || PyData.hasDictAll ds) = false
      rw [a.nd, b2]; rfl
    · show (d.leavesShort 13 && PyData.leavesShortAll 13 ds) = true
      rw [a.ls, b3]; rfl
    · show d.weight + 1 + PyData.weightAll ds ≤ (ds.length + 1) * (n + 1)
      have := a.wt
      rw [Nat.succ_mul]
      omega
    · show max d.depth (PyData.depthAll ds) ≤ k
      have := a.dp
      omega
theorem nice_tup {ds : List PyData} {n k m : Nat} (h : ∀ d ∈ ds, Nice d n k) (hm : ds.length * (n + 1) ≤ m) : Nice (.tuple ds) m (k + 1) := by
  obtain ⟨b1, b2, b3, b4, b5⟩ := nice_rows h
  exact ⟨b1, b2, b3, Nat.le_trans b4 hm, Nat.succ_le_succ b5⟩
theorem nice_lst {ds : List PyData} {n k m : Nat} (h : ∀ d ∈ ds, Nice d n k) (hm : ds.length * (n + 1) ≤ m) : Nice (.list ds) m (k + 1) := by
  obtain ⟨b1, b2, b3, b4, b5⟩ := nice_rows h
  exact ⟨b1, b2, b3, Nat.le_trans b4 hm, Nat.succ_le_succ b5⟩
structure NiceAll (ds : List PyData) (n k : Nat) : Prop where
  sh : PyData.showableAll ds = true
  nd : PyData.hasDictAll ds = false
  ls : PyData.leavesShortAll 13 ds = true
  wt : PyData.weightAll ds ≤ n
  dp : PyData.depthAll ds ≤ k
theorem NiceAll.nil {k : Nat} : NiceAll [] 0 k := ⟨rfl, rfl, rfl, Nat.le_refl 0, Nat.zero_le _⟩
theorem NiceAll.cons {d : PyData} {ds : List PyData} {a b k k' : Nat} (h : Nice d a k') (hs : NiceAll ds b k) (hk : k' ≤ k) : NiceAll (d :: ds) (a + 1 + b) k := by
  refine ⟨?_, ?_, ?_, ?_, ?_⟩
  · show (d.showable && PyData.showableAll ds) = true
    rw [h.sh, hs.sh]; rfl
  · show (d.hasDict || PyData.hasDictAll ds) = false
    rw [h.nd, hs.nd]; rfl
  · show (d.leavesShort 13 && PyData.leavesShortAll 13 ds) = true
    rw [h.ls, hs.ls]; rfl
  · show d.weight + 1 + PyData.weightAll ds ≤ a + 1 + b
    have := h.wt
    have := hs.wt
    omega
  · show max d.depth (PyData.depthAll ds) ≤ k
    have := h.dp
    have := hs.dp
    omega
theorem NiceAll.all {ds : List PyData} {n k m : Nat} (h : ∀ d ∈ ds, Nice d n k) (hm : ds.length * (n + 1) ≤ m) : NiceAll ds m k := by
  obtain ⟨b1, b2, b3, b4, b5⟩ := nice_rows h
  exact ⟨b1, b2, b3, Nat.le_trans b4 hm, b5⟩
theorem NiceAll.tup {ds : List PyData} {n k : Nat} (h : NiceAll ds n k) : Nice (.tuple ds) n (k + 1) := ⟨h.sh, h.nd, h.ls, h.wt, Nat.succ_le_succ h.dp⟩
theorem NiceAll.lst {ds : List PyData} {n k : Nat} (h : NiceAll ds n k) : Nice (.list ds) n (k + 1) := ⟨h.sh, h.nd, h.ls, h.wt, Nat.succ_le_succ h.dp⟩
/-- of thirty bits -/
theorem nice_int30 {i : Int} (h1 : -1000000000 ≤ i) (h2 : i ≤ 1000000000) : Nice (.int i) 30 0 := by
  have a := nice_int (i := i) (by omega) (by omega)
  refine ⟨a.sh, a.nd, a.ls, ?_, a.dp⟩
  show (if (i == 0) = true then 0 else i.natAbs.log2 + 1) ≤ 30
  split
  · omega
  · have hl : i.natAbs.log2 < 30 := by
      by_cases z : i.natAbs = 0
      · rw [z]; decide
      · exact (Nat.log2_lt z).mpr (by omega)
    omega
theorem nice_bool (b : Bool) : Nice (.bool b) 0 0 := ⟨rfl, rfl, rfl, Nat.le_refl 0, Nat.le_refl 0⟩
theorem nice_none : Nice .none 0 0 := ⟨rfl, rfl, rfl, Nat.le_refl 0, Nat.le_refl 0⟩
theorem dpAll_of {K : PySem.W.Frag} {H : Hp} {β : Type} {R : V → β → Prop} {f : β → PyData} (h : ∀ x y, R x y → Dp K H x (f y)) : ∀ {xs : List V} {ys : List β}, Paired R xs ys → DpAll K H xs (ys.map f)
  | _, _, .nil => .nil
  | _, _, .cons r rs => .cons (h _ _ r) (dpAll_of h rs)
theorem nice_leaf : Nice (.str "leaf") 4 0 := ⟨rfl, rfl, by decide, by decide, Nat.le_refl 0⟩
theorem nice_node : Nice (.str "node") 4 0 := ⟨rfl, rfl, by decide, by decide, Nat.le_refl 0⟩
/-- repr(x), x data that stands in the heap; nothing is being shown around -/
theorem call_reprD {X : Cx} (hg : X.A.guards = some []) (hu : X.A.units + 64 < cLine) : CallR X (.builtin "repr") (fun xs H Q => ∃ (a : Addr) (d : PyData) (n : Nat), xs = [.ref a] ∧ Dp X.K H (.ref a) d ∧ Nice d n 50 ∧ n ≤ 2 ^ 20 ∧ Q (.str d.shown) H) := by
  intro pins s σ H xs us Q I r h
  obtain ⟨a, d, n, rfl, hd, hn, hl, q⟩ := h
  obtain ⟨u, rfl, rx⟩ := vals1 r
  obtain rfl : u = Value.ref a := rx
  obtain ⟨as, rr⟩ := Dp.reads I d _ _ hd (rfl : RelV (.ref a) (.ref a))
  refine repr_of_reads' rr hn.sh (PyData.noDict_hsm hn.nd) hg (by have := hn.dp; omega) (fun _ _ e => e) (fun h' t tk hk => ⟨.str d.shown, H, I.kept (t' := tk) hk, ⟨t, rfl⟩, q⟩) (PyData.shown_fits (B := 13) (by decide) (by decide) hn.ls (Nat.le_trans hn.wt hl))
/-- as FnOk, where nothing is being shown around -/
structure FnOkG (P : Program) (w : World) (K : PySem.W.Frag) (mg : Str → Option Value) (base : Heap) (CX : CXT) (k : Nat) (f : Addr) (fd : FuncData) (ps : List Str) (sp : Sp) : Prop where
  go : ∀ (Z : Around) (envs : List Env) (c : Shared) (G : Hp) (us : List Value) (vs : List V) (Q : VK) (E : XK) (as : Args), Z.guards = some [] → Room k Z → Env0 P w K mg base Z envs c G → BindsTo c fd as (ps.zip us) → Vals vs us → sp vs G Q E →
    codeAny (model P w) Z (.call (.ref f) as) (CR CX envs P w G c Q E) c
theorem okG {P : Program} {w : World} {K : PySem.W.Frag} {mg : Str → Option Value} {base : Heap} {CX : CXT} {x qual : Str} {pr : Arguments} {bd : List Stmt} {sc : Scope} {dvs : List V} {kws : List (Str × V)} {f : Addr} {fd : FuncData} {N ps : List Str} {k : Nat} {sp : Sp}
    (F : FunD K x qual pr bd sc dvs kws f fd) (S : FnScope N ps sc) (len : ∀ vs H Q E, sp vs H Q E → vs.length = ps.length)
    (hb : ∀ (cdv : Value) (Z : Around) (envs : List Env) (c : Shared) (G : Hp) (vs : List V) (Q : VK) (E : XK), Z.guards = some [] → Room k (Z.deeper (envOfC qual sc c.heap.objs.size f cdv)) → sp vs G Q E →
      ∃ t, PSs (cxOf CX P w K mg base N qual sc f cdv Z envs c G E) bd t ∧ t { nx := fun _ G' => Q .non G', rt := Q } (start N vs) G) : FnOkG P w K mg base CX (k + 1) f fd ps sp := by
  obtain ⟨oc, od, dV, kV, doc, pm, an, cdv, ct, osl, rfl, lk, hcd, _, _⟩ := F.ex
  constructor
  intro Z envs c G us vs Q E as hz hr e0 hbt rel hsp
  have n0 := len _ _ _ _ hsp
  have kp : ∀ b o, base.get? b = some o → c.heap.get? b = some o := fun b o e => (e0.bs b o e).1
  have hK : K.In c.heap := e0.mod.kin.keeps kp
  have nl : c.heap.NoLimit := e0.mod.nolimit.keeps kp
  refine codeAny_call_function hr.depth (hK _ _ lk) rfl S.co S.gen rfl (PySem.W.codeRec_of hK hcd) (hbt _ _ _ _ ?_)
  refine wpAny_newFunctionEnv_cells S.kind ?_ ?_
  · rintro ⟨n, v⟩ hy
    rcases S.par n (List.of_mem_zip hy).1 with q | q
    · exact .inl q
    · exact .inr ⟨q, PySem.W.cellsFrom_some _ _ _ (.inl q)⟩
  intro env he c1 xx
  subst he
  refine ⟨nl.keeps xx.toInCall.keep, codeAny_func ?_⟩
  obtain ⟨t, ht, hq⟩ := hb cdv Z envs c G vs Q E hz (hr.deeper _) hsp
  refine wpAny_mono (ht.run [] c1 (start N vs) G _ (inv_start S hr.hd e0 n0 rel xx) hq) ?_ fun e c' z => z
  intro fl c' z
  match fl, z with
  | .ret u, ⟨v, σ', G', J, rv, q⟩ => exact ⟨v, G', J.os, J.bare, J.base, J.hok, rv, q⟩
  | .next, ⟨σ', G', J, q⟩ => exact ⟨V.non, G', J.os, J.bare, J.base, J.hok, rfl, q⟩
  | .brk, ⟨_, _, _, q⟩ => exact False.elim q
  | .cont, ⟨_, _, _, q⟩ => exact False.elim q
end RP

/-! ### the end of a law for a def around which nothing is being shown -/
namespace RP
open PySem PySem.Spec PyProof.Rows L2 HX RZ
theorem law_goes {P : Program} {w : World} {K : PySem.W.Frag} {mg mb : Str → Option Value} {k : Nat} {fa a : Addr} {fd : FuncData} {x : Str} {sp : Sp} {c : Shared} {us : List Value} {ns : List Int}
    (hK : K.In c.heap) (hm : c.heap.Ns mainGlobals mg) (hb : c.heap.Ns builtinsNs mb) (hbb : ∀ x : Str, x ≠ "__name__" → mb x = bootBuiltins x) (nl : c.heap.NoLimit) (ng : c.gens = #[])
    (ha : c.heap.get? a = some { cls := .type "list", data := .seq us.toArray }) (hi : IntsAre us ns) (hl : ns.length ≤ sizeLine) (hr : Room k callerA)
    (F : ∀ base : Heap, K.In base → base.Ns mainGlobals mg → FnOkG P w K mg base CX0 k fa fd [x] sp) (hbind : ∀ (s : Shared) (u : Value), BindsTo s fd ⟨[u], []⟩ [(x, u)])
    (hsp : ∀ G : Hp, Only G → SqL K G a (ns.map V.int) → sp [.ref a] G (fun v _ => v = .bl true) fun _ _ _ => False) :
    codeAny (model P w) callerA (.call (.ref fa) ⟨[.ref a], []⟩) (fun r c' => r = .ok (.ret (.bool true)) ∧ OldK c.heap c'.heap ∧ c'.os = c.os ∧ AllBare c'.gens) c := by
  have rv := vals_ints hi
  have main : ∀ G : Hp, Only G → SqL K G a (ns.map V.int) → HOk P w G c.heap → (∀ b, G b ≠ none → b = a) → (G a ≠ none → K.lookup a = none) →
      codeAny (model P w) callerA (.call (.ref fa) ⟨[.ref a], []⟩) (fun r c' => r = .ok (.ret (.bool true)) ∧ OldK c.heap c'.heap ∧ c'.os = c.os ∧ AllBare c'.gens) c := by
    intro G hO hS hok only own
    have away : ∀ {b : Addr}, b ≠ a → G b = none := fun {b} n => by
      rcases z : G b with _ | u
      · rfl
      · exact (n (only b (by rw [z]; exact nofun))).elim
    have ns0 : ∀ {b : Addr} {m : Str → Option Value}, c.heap.Ns b m → (hidT c.heap G).Ns b m := by
      rintro b m ⟨o, es, ep, e, d, r⟩
      refine ⟨o, es, ep, hidT_get e (away ?_), d, r⟩
      rintro rfl
      rw [ha] at e
      cases e
      exact nomatch d
    have kin : K.In (hidT c.heap G) := by
      intro b o e
      refine hidT_get (hK b o e) ?_
      rcases z : G b with _ | u
      · rfl
      · have n : G b ≠ none := by rw [z]; exact nofun
        have e' := only b n
        subst e'
        rw [own n] at e
        exact nomatch e
    have hM : Mod K mg (hidT c.heap G) := by
      obtain ⟨mc, q1, q2⟩ := nl
      exact ⟨kin, ns0 hm, ⟨mb, ns0 hb, hbb⟩, ⟨mc, ns0 q1, q2⟩⟩
    have e0 : Env0 P w K mg (hidT c.heap G) callerA [] c G := ⟨rfl, hM, fun b o e => of_hidT e, Nat.le_of_eq (hidT_size _ _), trivial, (fun b q => nomatch q), hok, .of_eq ng⟩
    refine codeAny_mono ((F _ kin (ns0 hm)).go callerA [] c G [.ref a] [.ref a] _ _ _ rfl hr e0 (hbind c (.ref a)) (.cons rfl .nil) (hsp G hO hS)) ?_
    intro r c' z
    match r, z with
    | .error _, z => exact False.elim (by simpa [CR, CX0] using z)
    | .ok (.ret u), ⟨v, G', os, bare, un, hok', r', q⟩ =>
      obtain rfl : v = .bl true := q
      obtain rfl : u = Value.bool true := r'
      refine ⟨rfl, OldK.of_keep ?_, os, bare⟩
      intro b o e
      rcases z : G b with _ | u
      · exact un.keep b o e z nofun nofun
      · rcases hO b with y | ⟨ob, xs, y⟩
        · rw [z] at y
          cases y
        · obtain ⟨e1, _⟩ := hok b _ y
          obtain ⟨e2, _⟩ := hok' b _ (un.frzs b ob _ y)
          rw [e] at e1
          cases e1
          exact e2
  rcases hk : K.lookup a with _ | o
  · refine main (fun b => if b = a then some (.frz { cls := .type "list", data := .seq us.toArray } (.lst (ns.map V.int))) else none) ?_ (.inl (.inr ⟨_, if_pos rfl⟩)) ?_ ?_ fun _ => hk
    · intro b
      by_cases e : b = a
      · exact .inr ⟨_, _, if_pos e⟩
      · exact .inl (if_neg e)
    · intro b u z
      by_cases e : b = a
      · have z' := (if_pos e).symm.trans z
        cases z'
        subst e
        exact ⟨ha, by rw [List.length_map]; exact hl, us, _, rv, ha⟩
      · exact nomatch (if_neg e).symm.trans z
    · intro b z
      by_cases e : b = a
      · exact e
      · exact absurd (if_neg e) z
  · have e := hK a o hk
    rw [ha] at e
    cases e
    have z := hi.length
    refine main (fun _ => none) (fun _ => .inl rfl) (.inr ⟨_, us.toArray, _, hk, rfl, rfl, rfl, ?_, by simpa using rv⟩) (fun b u z => nomatch z) (fun b z => absurd rfl z) fun z => absurd rfl z
    rw [List.size_toArray, z]
    exact hl
theorem walk_ofG {l : PySem.W.OpenLaw} {n k : Nat} {q : Program} {loose : List Str} {XP : (Str → Option Value) → Heap → Prop} {YP : World → Heap → Prop} {d : DefRec} {x : Str}
    (hn : l.most = some n) (hn2 : n ≤ sizeLine) (hdf : d.params.defaults = []) (hr : Room k callerA)
    (F : ∀ (w : World) (mg : Str → Option Value) (fa : Addr) (h : Heap), YP w h → h.Ns mainGlobals mg → mg d.name = some (.ref fa) → ∃ (K : PySem.W.Frag) (fd : FuncData) (sp : Sp), K.In h ∧ (∀ (s : Shared) (u : Value), BindsTo s fd ⟨[u], []⟩ [(x, u)]) ∧
      (∀ (G : Hp) (a : Addr) (ns : List Int), ns.length ≤ n → Only G → SqL K G a (ns.map V.int) → sp [.ref a] G (fun v _ => v = .bl true) fun _ _ _ => False) ∧ ∀ base : Heap, K.In base → base.Ns mainGlobals mg → FnOkG l.prog w K mg base CX0 k fa fd [x] sp) :
    PySem.W.WalkO q loose XP YP l.row.toRowW d [] (fun f vs => PySem.call f vs) := by
  refine Att.attach_call hn hdf ?_
  intro w c0 c mg mb fa o pm cd doc a us ns G Y ho hd hcd hmg hobj hints hlen hg
  obtain ⟨K, fd, sp, KX, hb, hsp, hF⟩ := F w mg fa _ Y G.T.g hmg
  exact law_goes KX G.T.g G.T.b G.T.builtins G.T.nolimit hg hobj hints (Nat.le_trans hlen hn2) hr hF hb (fun H hO hS => hsp H a ns hlen hO hS)
end RP

/-! ### a slice of a tuple, the whole of it too -/
namespace RU
open PySem PySem.Spec PyProof.Rows L2 HX RZ
def rSlU (K : PySem.W.Frag) : V → Option Int → Option Int → Hp → VK → Prop := fun x lo hi H Q => ∃ a xs, x = .ref a ∧ SqT K H a xs ∧ ∀ p H', Same H H' → SqT K H' p (cutV xs lo hi) → Q (.ref p) H'
theorem sl_tupU {X : Cx} : SlR X (rSlU X.K) := by
  intro pins s σ H x v vl vu lo hi sl Q I rx hs pl pu h
  obtain ⟨a, xs, rfl, hx, q⟩ := h
  refine sl_tupA pins s σ H _ v vl vu lo hi sl Q I rx hs pl pu ⟨a, xs, rfl, hx, fun ⟨w1, w2⟩ => q a H (Same.refl H) ?_, fun _ p hp => q p _ (same_new hp) (SqT.of upd_same)⟩
  unfold cutV
  rw [w1, w2, List.drop_zero, Nat.sub_zero, List.take_length]
  exact hx
end RU
/-! ### a tuple of written items, of which one knows that it has no dict -/
namespace RU
open PySem PySem.Spec PyProof.Rows L2 HX RZ
def tTupF (t : TA) : TE := fun σ H Q => t σ H fun xs H1 => xs.length ≤ sizeLine ∧ ∀ (p : Addr) (o : Obj), H1 p = none → o.dict = none → Q (.ref p) (upd H1 p (.frz o (.tup xs)))
theorem pe_tupF {X : Cx} {es : List Expr} {t : TA} {x1 : Nat} {pos : Pos} (h : PA X es t) : PE X (.Tuple es x1 pos) (tTupF t) := by
  refine ⟨fun pins s σ H Q I hq => ?_⟩
  refine wpAny_Tuple_spliced ?_
  refine thn (h.run pos pins s σ H _ I hq) ?_
  rintro us c ⟨xs, G, J, rel, few, go⟩
  refine ⟨by rw [← rel.length]; exact few, ?_⟩
  have free : G c.heap.objs.size = none := J.hok.fresh (Nat.le_refl _)
  have J2 : Inv X pins σ (upd G c.heap.objs.size (.frz { cls := .type "tuple", data := .seq us.toArray } (.tup xs))) { c with heap := c.heap.push { cls := .type "tuple", data := .seq us.toArray } } :=
    J.laid (t' := c.toks) (fun b u e => Heap.get?_push_of_some _ e) (Nat.le_refl _) (show ObjOk X.prog X.w _ _ _ (.frz _ (.tup xs)) from ⟨Heap.get?_push_size _ rfl, few, us, rel, _, Heap.get?_push_size _ rfl, rfl, _, rfl⟩)
  exact ⟨.ref c.heap.objs.size, _, J2, rfl, go _ _ free rfl⟩
end RU
/-! ### a part of a tuple, of which one knows that it has no dict -/
namespace RU
open PySem PySem.Spec PyProof.Rows L2 HX RZ
def rSlF (K : PySem.W.Frag) : V → Option Int → Option Int → Hp → VK → Prop := fun x lo hi H Q => ∃ a xs, x = .ref a ∧ SqT K H a xs ∧
  ¬ (HT.sIx xs.length 0 lo = 0 ∧ HT.sIx xs.length xs.length hi = xs.length) ∧ ∀ (p : Addr) (o : Obj), H p = none → o.dict = none → Q (.ref p) (upd H p (.frz o (.tup (cutV xs lo hi))))
theorem sl_tupF {X : Cx} : SlR X (rSlF X.K) := by
  rintro pins c σ G x v vl vu lo hi sl Q I rx hs pl pu ⟨a, xs, rfl, hx, nw, q⟩
  cases rx
  obtain ⟨its, r, ht, hz⟩ := I.tuple hx
  have e : its.toArray.size = xs.length := by
    rw [List.size_toArray]
    exact r.length.symm
  refine ⟨"tuple", _, PyProof.Rows.slot_tuple_getitem.lookup, ht.typeIs, ?_⟩
  refine HT.getItem_tuple_cut ht hs pl pu (by rw [e]; exact nw) ?_ (by rw [e]; exact hz)
  rw [e]
  have rel := (r.drop (HT.sIx xs.length 0 lo)).take (HT.sIx xs.length xs.length hi - HT.sIx xs.length 0 lo)
  let ob : Obj := { cls := .type "tuple", data := .seq (List.take (HT.sIx xs.length xs.length hi - HT.sIx xs.length 0 lo) (List.drop (HT.sIx xs.length 0 lo) its.toArray.toList)).toArray }
  refine ⟨.ref c.heap.objs.size, upd G c.heap.objs.size (.frz ob (.tup (cutV xs lo hi))), I.laid (t' := c.toks) (o := .frz ob (.tup (cutV xs lo hi))) (fun b u z => Heap.get?_push_of_some _ z) (Nat.le_refl _) ?_, rfl, q _ ob (I.hok.fresh (Nat.le_refl _)) rfl⟩
  exact ⟨Heap.get?_push_size _ rfl, Nat.le_trans (cutV_length xs lo hi) hz, _, rel, IsTup.new _ _⟩
end RU
/-! ### t.index(k), t a tuple of whole numbers -/
namespace RU
open PySem PySem.Spec PyProof.Rows L2 HX RZ
theorem mt_tindexI {X : Cx} : MtR X "tuple.index" (fun x xs H Q => ∃ (p : Addr) (ns : List Int) (k : Int), x = .ref p ∧ xs = [.int k] ∧ SqT X.K H p (ns.map V.int) ∧ k ∈ ns ∧ Q (.int (ns.idxOf k : Nat)) H) := by
  rintro pins c σ G x xs v us Q I rx rs ⟨p, ns, k, rfl, rfl, hq, hk, q⟩
  cases rx
  obtain ⟨u, rfl, t, rfl⟩ := vals1 rs
  obtain ⟨its, r, ⟨ob, ho, hc, n, hd⟩, hz⟩ := I.tuple hq
  obtain ⟨cls, dat, dd, sl⟩ := ob
  dsimp only at hc hd
  subst hc hd
  have hj := List.idxOf_lt_length_of_mem hk
  have sz : its.toArray.size = ns.length := by rw [List.size_toArray, ← r.length, List.length_map]
  have item : ∀ (m : Nat) (hm : m < its.toArray.size), ∃ y t', ns[m]? = some y ∧ its.toArray[m] = Value.int y t' := by
    intro m hm
    have hm2 : m < ns.length := by omega
    obtain ⟨w, hw, t', e⟩ := r.get (i := m) (x := .int ns[m]) (by simp [hm2])
    refine ⟨ns[m], t', List.getElem?_eq_getElem hm2, ?_⟩
    rw [← e]
    simpa using (List.getElem?_eq_some_iff.mp hw).2
  refine call_meets PySem.F.slot_tuple_index ⟨_, ho, rfl⟩ PySem.F.entry_tuple_index (PySem.F.args_tuple_index_2 _ _) (TI.tuple_indexAt p its.toArray n _ _ (.int k t) (eqU (.int k)) (ns.idxOf k) (by omega) ?_ ?_) ⟨ho, ?_, ⟨.int (ns.idxOf k : Nat), G, I.tok _, ⟨_, rfl⟩, q⟩⟩
  · obtain ⟨y, t', h1, h2⟩ := item (ns.idxOf k) (by omega)
    rw [h2]
    have e : ns[ns.idxOf k]? = some k := by
      rw [List.getElem?_eq_getElem hj]
      exact congrArg some (List.getElem_idxOf hj)
    rw [e] at h1
    cases h1
    exact beq_self_eq_true k
  · intro m hm hmj
    obtain ⟨y, t', h1, h2⟩ := item m hm
    rw [h2]
    refine beq_eq_false_iff_ne.mpr fun e => ?_
    subst e
    have z := List.not_of_lt_findIdx (p := (· == y)) (xs := ns) (i := m) hmj
    rw [(List.getElem?_eq_some_iff.mp h1).2] at z
    simp at z
  · intro w hw
    exact mem_eqAt (x := .int k) ⟨t, rfl⟩ rfl r (by rw [List.all_map]; exact List.all_eq_true.mpr fun _ _ => rfl) w (by simpa using hw)
end RU
/-! ### a method of a tuple, of which one knows that it has no dict -/
namespace RU
open PySem PySem.Spec PyProof.Rows L2 HX RZ
def tBMF (r : V → List V → Hp → VK → Prop) (to : TE) (t : TA) : TE := fun σ H Q => to σ H fun x H1 => (∃ (a : Addr) (ob : Obj) (xs : List V), x = .ref a ∧ H1 a = some (.frz ob (.tup xs)) ∧ ob.dict = none) ∧ t σ H1 fun vs H2 => r x vs H2 Q
theorem pe_bmF {X : Cx} {name id : String} {r : V → List V → Hp → VK → Prop} {o e : Expr} {es : List Expr} {apos cpos : Pos} {to : TE} {t : TA} (slot : Slot "tuple" name id) (hty : typeOf (.builtin id) = pure (.type "method_descriptor")) (hm : MtR X id r) (ho : PE X o to) (ha : PA X (e :: es) t)
    (hb : attributeBase o name X.env (eval o X.env) = eval o X.env := by rfl)
    (hf : ((backTo cpos (starEach (e :: es) X.env)).all (fun x => !x.1) && (backToKw cpos (keywordEach [] X.env)).all (fun x => x.1.isSome) && decide ((e :: es).length + ([] : List Keyword).length + (if ([] : List Keyword).isEmpty then 0 else 1) < 30)) = true := by rfl)
    (hl : (apos.endLine == cpos.line) = true := by rfl) (hs : starEach (e :: es) X.env = (false, eval e X.env) :: starEach es X.env := by rfl) (hp : (backTo cpos (starEach es X.env)).any (·.1) = false := by rfl) :
    PE X (.Call (.Attribute o name apos) (e :: es) [] cpos) (tBMF r to t) := by
  refine ⟨fun pins c σ G Q I h => ?_⟩
  refine wpAny_Call_method_late hb hf hl rfl ?_
  refine thn (ho.run pins c σ G _ I h) ?_
  rintro v c1 ⟨x, G1, J, rx, ⟨a, ob, xs, rfl, hx, hd⟩, q⟩
  cases rx
  obtain ⟨hg, _, its, _, tp⟩ := J.hok a _ hx
  refine ⟨"tuple", id, PySem.F.plainAttrs_tuple, slot, hty, tp.typeIs, fun b z => ?_, ?_⟩
  · cases z
    exact ⟨ob, hg, hd⟩
  have run := ha.run cpos pins c1 σ G1 _ J q
  rw [hs] at run ⊢
  refine Calls.callWith_builtin ?_ (Calls.evalArgs_plain ?_)
  · show (false || (backTo cpos (starEach es X.env)).any (·.1)) = false
    rw [hp]
    rfl
  · exact thn run fun us c2 ⟨vs, G2, J2, r2, q2⟩ => hm pins c2 σ G2 (.ref a) vs _ us Q J2 rfl r2 q2
end RU
/-! ### t + u, t not empty: a new tuple, of which one knows that it has no dict, or t itself -/
namespace RU
open PySem PySem.Spec PyProof.Rows L2 HX RZ
def rCatF (K : PySem.W.Frag) : R2 := fun x y H Q => ∃ a b xs ys, x = .ref a ∧ y = .ref b ∧ SqT K H a xs ∧ SqT K H b ys ∧ xs ≠ [] ∧ xs.length + ys.length ≤ sizeLine ∧
  (ys = [] → Q (.ref a) H) ∧ (ys ≠ [] → ∀ (p : Addr) (o : Obj), H p = none → o.dict = none → Q (.ref p) (upd H p (.frz o (.tup (xs ++ ys)))))
theorem op_catF {X : Cx} : OpR X (binaryOp .Add) (rCatF X.K) := by
  intro pins s σ H x y v u Q I rx ry h
  obtain ⟨a, b, xs, ys, rfl, rfl, ha, hb, hx, hz, q1, q2⟩ := h
  cases rx
  cases ry
  obtain ⟨its, r1, p1, _⟩ := I.tuple ha
  obtain ⟨its2, r2, p2, _⟩ := I.tuple hb
  refine HT.cat_tup p1 p2 (fun z => hx (r1.nil_iff.mp z)) (fun z => ⟨.ref a, H, I, rfl, q1 (r2.nil_iff.mp z)⟩) (fun z => ?_) (by rw [← r1.length, ← r2.length]; exact hz)
  let ob : Obj := { cls := .type "tuple", data := .seq (its ++ its2).toArray }
  refine ⟨.ref s.heap.objs.size, upd H s.heap.objs.size (.frz ob (.tup (xs ++ ys))), I.laid (t' := s.toks) (o := .frz ob (.tup (xs ++ ys))) (fun b ob q => Heap.get?_push_of_some _ q) (Nat.le_refl _) ?_, rfl, q2 (fun w => z (r2.nil_iff.mpr w)) _ ob (I.hok.fresh (Nat.le_refl _)) rfl⟩
  exact ⟨Heap.get?_push_size _ rfl, by rw [List.length_append]; exact hz, _, r1.append r2, IsTup.new _ _⟩
/-- a part of a tuple: a new one, told as one likes -/
theorem sl_tupV {X : Cx} : SlR X (fun x lo hi H Q => (∃ a xs, x = .ref a ∧ SqT X.K H a xs ∧ ¬ (HT.sIx xs.length 0 lo = 0 ∧ HT.sIx xs.length xs.length hi = xs.length) ∧ ∀ p, H p = none → Q (.ref p) (upd H p (.tup (cutV xs lo hi)))) ∨ rSlF X.K x lo hi H Q) := by
  rintro pins c σ G x v vl vu lo hi sl Q I rx hs pl pu (h | h)
  · exact sl_tup pins c σ G x v vl vu lo hi sl Q I rx hs pl pu h
  · exact sl_tupF pins c σ G x v vl vu lo hi sl Q I rx hs pl pu h
end RU
/-! ### sums of tuples, told alike whatever part is empty -/
namespace RU
open PySem PySem.Spec PyProof.Rows L2 HX RZ
def rCatG (K : PySem.W.Frag) : R2 := fun x y H Q => ∃ a b xs ys o, x = .ref a ∧ y = .ref b ∧ H a = some (.frz o (.tup xs)) ∧ o.dict = none ∧ SqT K H b ys ∧ xs ≠ [] ∧ xs.length + ys.length ≤ sizeLine ∧
  ∀ (p : Addr) (o : Obj) (H' : Hp), Same H H' → H' p = some (.frz o (.tup (xs ++ ys))) → o.dict = none → Q (.ref p) H'
theorem op_catG {X : Cx} : OpR X (binaryOp .Add) (rCatG X.K) := by
  intro pins s σ H x y v u Q I rx ry h
  obtain ⟨a, b, xs, ys, o, rfl, rfl, ha, ho, hb, hx, hz, q⟩ := h
  refine op_catF pins s σ H _ _ v u Q I rx ry ⟨a, b, xs, ys, rfl, rfl, .inl (.inr ⟨o, ha⟩), hb, hx, hz, fun z => q a o H (Same.refl H) (by rw [z, List.append_nil]; exact ha) ho, fun _ p o2 hp ho2 => q p o2 _ (same_new hp) upd_same ho2⟩
def rCatR (K : PySem.W.Frag) : R2 := fun x y H Q => ∃ a b xs ys, x = .ref a ∧ y = .ref b ∧ SqT K H a xs ∧ H b = some (.tup ys) ∧ ys ≠ [] ∧ xs.length + ys.length ≤ sizeLine ∧
  ∀ (p : Addr) (H' : Hp), Same H H' → H' p = some (.tup (xs ++ ys)) → Q (.ref p) H'
theorem op_catR {X : Cx} : OpR X (binaryOp .Add) (rCatR X.K) := by
  intro pins s σ H x y v u Q I rx ry h
  obtain ⟨a, b, xs, ys, rfl, rfl, ha, hb, hy, hz, q⟩ := h
  refine op_catA pins s σ H _ _ v u Q I rx ry ⟨a, b, xs, ys, rfl, rfl, ha, SqT.of hb, hz, fun z => q b H (Same.refl H) (by rw [z]; exact hb), fun _ z => (hy z).elim, fun _ _ p hp => q p _ (same_new hp) upd_same⟩
def rCatL (K : PySem.W.Frag) : R2 := fun x y H Q => ∃ a b xs ys, x = .ref a ∧ y = .ref b ∧ H a = some (.tup xs) ∧ SqT K H b ys ∧ xs ≠ [] ∧ xs.length + ys.length ≤ sizeLine ∧
  ∀ (p : Addr) (H' : Hp), Same H H' → H' p = some (.tup (xs ++ ys)) → Q (.ref p) H'
theorem op_catL {X : Cx} : OpR X (binaryOp .Add) (rCatL X.K) := by
  intro pins s σ H x y v u Q I rx ry h
  obtain ⟨a, b, xs, ys, rfl, rfl, ha, hb, hx, hz, q⟩ := h
  refine op_catA pins s σ H _ _ v u Q I rx ry ⟨a, b, xs, ys, rfl, rfl, SqT.of ha, hb, hz, fun z => (hx z).elim, fun _ z => q a H (Same.refl H) (by rw [z, List.append_nil]; exact ha), fun _ _ p hp => q p _ (same_new hp) upd_same⟩
end RU
/-! ### == and != of data, the fragment named -/
namespace RU
open PySem PySem.Spec PyProof.Rows L2 HX RZ
theorem eqDK {X : Cx} (K : PySem.W.Frag) (hu : X.A.units + 64 < cLine) (h : X.K = K := by rfl) : OpR X (compareOp .Eq) (rEqD K) := h ▸ op_eqD hu
theorem neDK {X : Cx} (K : PySem.W.Frag) (hu : X.A.units + 64 < cLine) (h : X.K = K := by rfl) : OpR X (compareOp .NotEq) (rNeD K) := h ▸ op_neD hu
end RU

namespace RP
open PySem PySem.Spec PyProof.Rows L2 RZ HX
/-- repr of a truth -/
theorem call_reprBl {X : Cx} : CallR X (.builtin "repr") (fun xs H Q => ∃ b : Bool, xs = [.bl b] ∧ Q (.str (if b then "True" else "False")) H) := by
  intro pins s σ H xs us Q I r h
  obtain ⟨b, rfl, q⟩ := h
  obtain ⟨u, rfl, rx⟩ := vals1 r
  obtain rfl : u = Value.bool b := rx
  exact PySem.P.repr_of_bool ⟨.str (if b then "True" else "False"), H, I.tok _, ⟨_, rfl⟩, q⟩
end RP

/-! ### set(xs) of a list of whole numbers -/
namespace RU
open PySem PySem.Spec PyProof.Rows L2 HX RZ
section
variable {P : Program} {w : World} {A : Around} {E : Value → Shared → Prop} {s : Shared}
/-- the object of a set just made -/
abbrev newSet (w : World) : Obj := { cls := .type "set", dict := none, data := .set #[] 0 (.fresh 0 0 (!w.params.followText "set-order")) }
set_option maxRecDepth 100000 in
set_option maxHeartbeats 3200000 in
theorem set_ints {l : Addr} {its : Array Value} (ks : List Int) {Q : Value → Shared → Prop} (nh : A.handled = none) (il : s.heap.IsList l its) (ii : IntsAre its.toList ks) (few : ks.length + 1 < scanBound)
    (go : ∀ (g : Heap) (tk c : Nat), SetR w g s.heap.objs.size (fun j => decide (j ∈ ks)) c → c ≤ ks.length → (∀ b o, s.heap.get? b = some o → g.get? b = some o) → Q (.ref s.heap.objs.size) { s with heap := g, toks := tk }) :
    wpAny (model P w) A (call (.type "set") [.ref l]) Q E s := by
  have sz : its.size = ks.length := (Array.length_toList (xs := its)).symm.trans (IntsAre.length ii)
  obtain ⟨cm, tm, mro⟩ := F.called_set.mro
  have made := F.called_set.made; have subs := F.called_set.sub
  refine wpAny_call (codeAny_of_tree ?_); show wpAny _ _ (callAny (.type "set") _) _ _ _
  refine wpAny_pure ⟨Code.quiet_builtin _ (by decide +kernel), codeAny_builtin PySem.F.entry_type_call ?_⟩; rw [Around.under_plain (weight_type_call_type "set" [.ref l] []) rfl]
  have f1 := F.called_set.notType; have f2 := F.called_set.canCreate; have f3 := F.typeCall_set_1 (.ref l)
  repeat (any_goals (first | assumption | wp_step))
  refine codeAny_mono (code_set_led1 (.ref l) (E := E) (Q₁ := fun u z => u = .ref s.heap.objs.size ∧ z = { s with heap := s.heap.push (newSet w) }) ⟨rfl, rfl⟩) fun r z hz => ?_
  match r, hz with
  | .error _, hz => exact hz
  | .ok (.ret u), hz =>
    obtain ⟨rfl, rfl⟩ := hz
    have at0 : (s.heap.push (newSet w)).get? s.heap.objs.size = some (newSet w) := Heap.get?_push_size _ rfl
    have isT : Shared.TypeIs { s with heap := s.heap.push (newSet w) } (.ref s.heap.objs.size) "set" := ⟨_, at0, rfl⟩
    have f4 := F.called_set.init.lookup; have f5 := F.called_set.init.bind (.ref s.heap.objs.size)
    repeat (any_goals (first | assumption | wp_step))
    refine codeAny_mono (codeAny_call_builtin (R := wants (fun r z => r = .none ∧ ∃ g tk c, z = { s with heap := g, toks := tk } ∧ SetR w g s.heap.objs.size (fun j => decide (j ∈ ks)) c ∧ c ≤ ks.length ∧
        (∀ b o, s.heap.get? b = some o → g.get? b = some o)) E) F.called_set.init.plain F.entry_set_init (check_set_init_1 isT ?_)) fun r2 z2 hz2 => ?_
    · obtain ⟨⟨oc, od, odat, osl⟩, hg, hc, nn, hd⟩ := il
      simp only at hc hd; subst hc; subst hd
      have hg' : (s.heap.push (newSet w)).get? l = some { cls := .type "list", dict := od, data := .seq its nn, slots := osl } := Heap.get?_push_of_some _ hg
      have u1 := F.sub_list_set; have u2 := F.sub_list_frozenset
      have u3 : (Value.type "list" == Value.type "dict") = false := by decide
      have il1 : (s.heap.push (newSet w)).IsList l its := ⟨_, hg', rfl, nn, rfl⟩
      unfold Builtin.«set.__init__» noKeywords Builtin.Frozenset.updateFrom; generalize hPy : pyIter = Py; wp_walk; subst hPy
      refine wpAny_pyIter_list il1 (wpAny_bind (wpAny_runValue ?_))
      have lt : l < s.heap.objs.size := Heap.lt_size hg
      have nh3 : A.in1.in1.in1.handled = none := by simp [nh]
      have ne : l ≠ (s.heap.push (newSet w)).objs.size := by rw [Heap.size_push]; exact Nat.ne_of_lt (Nat.lt_succ_of_lt lt)
      have nf : s.heap.objs.size ∉ [(s.heap.push (newSet w)).objs.size, l] := by
        rw [Heap.size_push]
        exact fun z => (List.mem_cons.mp z).elim (fun y => Nat.ne_of_lt (Nat.lt_succ_self _) y) fun y => Nat.ne_of_gt lt (List.mem_singleton.mp y)
      have vals : ∀ (i : Nat) (v : Value), its[i]? = some v → ∃ k t, ks[i]? = some k ∧ v = .int k t := fun i v hv => by
        have hi : i < ks.length := by rw [← sz]; exact (Array.getElem?_eq_some_iff.mp hv).1
        obtain ⟨t, e⟩ := IntsAre.int_at ii i v (by rw [Array.getElem?_toList]; exact hv)
        exact ⟨ks[i], t, List.getElem?_eq_getElem hi, by rw [e, List.getD_eq_getElem?_getD, List.getElem?_eq_getElem hi] <;> rfl⟩
      refine set_update_ints ((Walks.list nh3 _ l ne its).toS) s.heap.objs.size nf ks sz few vals (its.size - 0) 0 _ (by omega) (Nat.zero_le _) ⟨⟨_, Heap.get?_push_size _ rfl, rfl, rfl⟩, (il1.push _)⟩ ⟨0, Nat.le_refl 0, setR_new_at (Heap.get?_push_of_some _ at0)⟩ ?_
      rintro ⟨g, g2, d2, tk2, os2⟩ c mv hc2 hS
      obtain rfl : g2 = s.gens := mv.gens; obtain rfl : d2 = s.drawn := mv.drawn; obtain rfl : os2 = s.os := mv.os
      show wpAny _ _ _ _ _ _
      refine wpAny_pure ?_; show wpAny _ _ (ret Value.none) _ _ _
      rw [sz] at hc2
      refine wpAny_pure ⟨rfl, g, tk2, c, rfl, hS, hc2, fun b o e => ?_⟩
      have b0 := Heap.lt_size e
      exact mv.heap b o (by
        rw [Heap.size_push]
        exact fun z => (List.mem_cons.mp z).elim (fun y => Nat.ne_of_lt b0 y) fun y => Nat.ne_of_lt (Nat.lt_succ_of_lt b0) (List.mem_singleton.mp y)) (Heap.get?_push_of_some _ (Heap.get?_push_of_some _ e))
    · match r2, hz2 with
      | .error _, hz2 => exact hz2
      | .ok (.ret u2), hz2 =>
        obtain ⟨rfl, g, tk2, c, rfl, hS, hc2, keep⟩ := hz2
        repeat (any_goals (first | assumption | wp_step))
        exact go _ _ _ hS hc2 keep
end
section
variable {X : Cx}
def rSetL (K : PySem.W.Frag) (w : World) : List V → Hp → VK → Prop := fun xs H Q => ∃ (l : Addr) (ks : List Int), xs = [.ref l] ∧ SqL K H l (ks.map V.int) ∧ ks.length + 1 < scanBound ∧ ∀ (p : Addr) (c : Nat) (H' : Hp), c ≤ ks.length → Same H H' → H p = none → H' p = some (SetO w p (fun j => decide (j ∈ ks)) c) → Q (.ref p) H'
theorem call_setL (hc : X.calm = true) : CallR X (.type "set") (rSetL X.K X.w) := by
  intro pins s σ H xs us Q I r h
  obtain ⟨l, ks, rfl, hq, few, q⟩ := h
  rw [Vals.ref1 r]
  obtain ⟨its, rv, pl, hz⟩ := I.list hq
  refine set_ints ks (I.ok.hd hc) pl.isList (by simpa using ints_of_vals rv) few fun g tk c hS hc2 keep => ?_
  exact ⟨.ref s.heap.objs.size, _, I.laid (t' := tk) keep (Nat.le_refl _) (setO_new hS), rfl, q _ c _ hc2 (same_new (I.hok.fresh (Nat.le_refl _))) (I.hok.fresh (Nat.le_refl _)) upd_same⟩
/-- sorted(set) -/
def rSortSet (w : World) : List V → Hp → VK → Prop := fun vs H Q => ∃ (a : Addr) (S : Int → Bool) (n : Nat), vs = [V.ref a] ∧ H a = some (SetO w a S n) ∧ n < 64 ∧
  ∀ (ns : List Int) (p : Addr) (H' : Hp), ns.Pairwise (· < ·) → (∀ k : Int, k ∈ ns ↔ S k = true) → ns.length = n → Same H H' → H p = none → H' p = some (.lst (ns.map V.int)) → Q (.ref p) H'
theorem cr_sortedSetO (hc : X.calm = true) : CallR X (.builtin "sorted") (rSortSet X.w) := fun pins s σ H vs us Q I r ⟨a, S, n, e, ha, hn, q⟩ =>
  cr_sortedSet hc pins s σ H vs us Q I r ⟨a, S, n, e, ha, hn, fun ns p h1 h2 h3 hp => q ns p _ h1 h2 h3 (same_new hp) hp upd_same⟩
end
end RU
/-! ### t + u, tuples, whatever part is empty -/
namespace RU
open PySem PySem.Spec PyProof.Rows L2 HX RZ
def rCatS (K : PySem.W.Frag) : R2 := fun x y H Q => ∃ a b xs ys, x = .ref a ∧ y = .ref b ∧ SqT K H a xs ∧ SqT K H b ys ∧ xs.length + ys.length ≤ sizeLine ∧ ∀ (p : Addr) (H' : Hp), Same H H' → SqT K H' p (xs ++ ys) → Q (.ref p) H'
theorem op_catS {X : Cx} : OpR X (binaryOp .Add) (rCatS X.K) := by
  intro pins s σ H x y v u Q I rx ry h
  obtain ⟨a, b, xs, ys, rfl, rfl, ha, hb, hz, q⟩ := h
  refine op_catA pins s σ H _ _ v u Q I rx ry ⟨a, b, xs, ys, rfl, rfl, ha, hb, hz, fun z => q b H (Same.refl H) (by rw [z]; exact hb), fun _ z => q a H (Same.refl H) (by rw [z, List.append_nil]; exact ha), fun _ _ p hp => q p _ (same_new hp) (SqT.of upd_same)⟩
end RU
/-! ### new things, the heap behind not written out -/
namespace RU
open PySem PySem.Spec PyProof.Rows L2 HX RZ
def FzT (H : Hp) (a : Addr) (xs : List V) : Prop := ∃ o : Obj, H a = some (.frz o (.tup xs)) ∧ o.dict = none
section
variable {X : Cx} {es : List Expr} {t : TA} {pos : Pos}
def tTupS (t : TA) : TE := fun σ H Q => t σ H fun xs H1 => xs.length ≤ sizeLine ∧ ∀ (p : Addr) (H' : Hp), Same H1 H' → H1 p = none → FzT H' p xs → Q (.ref p) H'
theorem pe_tupS {x1 : Nat} (h : PA X es t) : PE X (.Tuple es x1 pos) (tTupS t) := by
  refine ⟨fun pins s σ H Q I hq => ?_⟩
  refine wpAny_Tuple_spliced ?_
  refine thn (h.run pos pins s σ H _ I hq) ?_
  rintro us c ⟨xs, G, J, rel, few, go⟩
  refine ⟨by rw [← rel.length]; exact few, ?_⟩
  have free : G c.heap.objs.size = none := J.hok.fresh (Nat.le_refl _)
  have J2 : Inv X pins σ (upd G c.heap.objs.size (.frz { cls := .type "tuple", data := .seq us.toArray } (.tup xs))) { c with heap := c.heap.push { cls := .type "tuple", data := .seq us.toArray } } :=
    J.laid (t' := c.toks) (fun b u e => Heap.get?_push_of_some _ e) (Nat.le_refl _) (show ObjOk X.prog X.w _ _ _ (.frz _ (.tup xs)) from ⟨Heap.get?_push_size _ rfl, few, us, rel, _, Heap.get?_push_size _ rfl, rfl, _, rfl⟩)
  exact ⟨.ref c.heap.objs.size, _, J2, rfl, go _ _ (same_new free) free ⟨_, upd_same, rfl⟩⟩
def tLstS (t : TA) : TE := fun σ H Q => t σ H fun xs H1 => xs.length ≤ sizeLine ∧ ∀ (p : Addr) (H' : Hp), Same H1 H' → H1 p = none → H' p = some (.lst xs) → Q (.ref p) H'
theorem pe_lstS (h : PA X es t) : PE X (.List es pos) (tLstS t) := by
  refine ⟨fun pins s σ H Q I hq => ?_⟩
  refine wpAny_List_spliced ?_
  refine thn (h.run pos pins s σ H _ I hq) ?_
  rintro us c ⟨xs, G, J, rel, few, go⟩
  refine ⟨by rw [← rel.length]; exact few, ?_⟩
  have free : G c.heap.objs.size = none := J.hok.fresh (Nat.le_refl _)
  exact ⟨.ref c.heap.objs.size, _, J.lnew (t' := c.toks) rel few, rfl, go _ _ (same_new free) free upd_same⟩
theorem op_catLS : OpR X (binaryOp .Add) (fun x y H Q => ∃ l b xs zs, x = .ref l ∧ y = .ref b ∧ H l = some (.lst xs) ∧ H b = some (.lst zs) ∧ xs.length + zs.length ≤ sizeLine ∧ ∀ (p : Addr) (H' : Hp), Same H H' → H p = none → H' p = some (.lst (xs ++ zs)) → Q (.ref p) H') :=
  fun pins s σ H x y v u Q I rx ry ⟨l, b, xs, zs, h1, h2, h3, h4, h5, q⟩ => op_cat pins s σ H x y v u Q I rx ry ⟨l, b, xs, zs, h1, h2, h3, h4, h5, fun p hp => q p _ (same_new hp) hp upd_same⟩
theorem sl_lstS : SlR X (fun x lo hi H Q => ∃ a xs, x = .ref a ∧ SqL X.K H a xs ∧ ∀ (p : Addr) (H' : Hp), Same H H' → H p = none → H' p = some (.lst (cutV xs lo hi)) → Q (.ref p) H') :=
  fun pins s σ H x v vl vu lo hi sl Q I rx hs pl pu ⟨a, xs, h1, h2, q⟩ => sl_list pins s σ H x v vl vu lo hi sl Q I rx hs pl pu ⟨a, xs, h1, h2, fun p hp => q p _ (same_new hp) hp upd_same⟩
theorem call_tupS : CallR X (.type "tuple") (fun xs H Q => ∃ p ys, xs = [.ref p] ∧ SqL X.K H p ys ∧ ∀ (l : Addr) (H' : Hp), Same H H' → H l = none → FzT H' l ys → Q (.ref l) H') :=
  fun pins s σ H xs us Q I r ⟨p, ys, h1, h2, q⟩ => call_tupF pins s σ H xs us Q I r ⟨p, ys, h1, h2, fun l o hl ho => q l _ (same_new hl) hl ⟨o, upd_same, ho⟩⟩
theorem call_lstS : CallR X (.type "list") (fun xs H Q => ∃ p ys, xs = [.ref p] ∧ (SqL X.K H p ys ∨ SqT X.K H p ys) ∧ ∀ (l : Addr) (H' : Hp), Same H H' → H l = none → H' l = some (.lst ys) → Q (.ref l) H') :=
  fun pins s σ H xs us Q I r ⟨p, ys, h1, h2, q⟩ => call_list_of pins s σ H xs us Q I r ⟨p, ys, h1, h2, fun l hl => q l _ (same_new hl) hl upd_same⟩
theorem call_dictS (hcalm : X.calm = true) : CallR X (.type "dict") (fun xs H Q => ∃ (a : Addr) (o : Obj) (ps : List Addr) (kvs : List (Key × V)), xs = [.ref a] ∧ H a = some (.frz o (.tup (ps.map V.ref))) ∧ o.dict = none ∧ Paired (fun p kv => SqT X.K H p [kV kv.1, kv.2]) ps kvs ∧
    ∀ (p : Addr) (H' : Hp), Same H H' → H p = none → H' p = some (.dK (mergeK [] kvs)) → Q (.ref p) H') :=
  fun pins s σ H xs us Q I r ⟨a, o, ps, kvs, h1, h2, h3, h4, q⟩ => call_dictT hcalm pins s σ H xs us Q I r ⟨a, o, ps, kvs, h1, h2, h3, h4, fun p hp => q p _ (same_new hp) hp upd_same⟩
end
end RU

/-! ### a call of a def that wants to know that nothing is being shown -/
namespace RP
open PySem PySem.Spec PyProof.Rows L2 HX RZ
section
variable {X : Cx} {CX : CXT} {k : Nat} {f : Addr} {fd : FuncData} {ps : List Str} {sp : Sp} {dvs : List V} {ds : List Value} {E : XK} {x : Str} {e : Expr} {es : List Expr} {t : TA} {p pos : Pos}
theorem pe_callG (F : FnOkG X.prog X.w X.K X.mg X.base CX k f fd ps sp) (len : ∀ vs H Q E, sp vs H Q E → vs.length = ps.length) (gd : X.A.guards = some []) (hr : Room k X.A) (hg : Gl X x) (hm : X.mg x = some (.ref f)) (hk : PySem.W.keepIn X.K (.ref f) = true) (hb : Binds X.K fd ps ds) (hd : Vals dvs ds) (hx : Passes CX X E)
    (ha : PA X (e :: es) t) (hdb : (x == ("__debug__" : Str)) = false := by decide) (he : starEach (e :: es) X.env = (false, eval e X.env) :: starEach es X.env := by rfl) (hpl : (backTo pos (starEach es X.env)).any (·.1) = false := by rfl) :
    PE X (.Call (.Name x p) (e :: es) [] pos) (tCall sp dvs E t) := by
  refine ⟨fun pins s σ H Q I h => wpAny_Call_Name_kw (ld_glob I hg hm ?_ hdb)⟩
  refine PySem.W.callWith_K (h₀ := X.base) I.ok.mod.kin hk (thn (ha.run pos pins s σ H _ I h) fun us c ⟨vs, G, J, r, q⟩ => ⟨J.kIn, ?_⟩) he hpl
  have rr : Vals (vs ++ dvs) (us ++ ds) := r.append hd
  have hl : (us ++ ds).length = ps.length := by rw [← rr.length]; exact len _ _ _ _ q
  refine wpAny_call (codeAny_mono (F.go X.A X.stack c G (us ++ ds) (vs ++ dvs) Q E ⟨us, []⟩ gd hr J.env0 (hb c us J.kIn hl) rr q) fun r c' z => ?_)
  match r, z with
  | .error e, z => exact hx pins σ G c e c' J z
  | .ok (.ret u), z => exact J.after z
theorem kw_only {n : Nat} {ks : List Str} {kws : List Keyword} {tk : TA} {g : List Value → List Value → List Value} {gV : List V → List V → List V} (F : FnOk X.prog X.w X.K X.mg X.base CX k f fd ps sp) (hr : Room k X.A) (hg : Gl X x) (hm : X.mg x = some (.ref f)) (hk : PySem.W.keepIn X.K (.ref f) = true) (hb : KBn X.K fd ps n ks g gV) (hx : Passes CX X E)
    (hkw : PK X kws tk) (hall : (backToKw pos (keywordEach kws X.env)).all (·.1.isSome) = true := by rfl) (hks : (backToKw pos (keywordEach kws X.env)).filterMap (·.1) = ks := by rfl) (hdb : (x == ("__debug__" : Str)) = false := by decide)
    (hpl : ((backTo pos (starEach [] X.env)).any (·.1) || (backToKw pos (keywordEach kws X.env)).any (·.1.isNone)) = false := by rfl) :
    PE X (.Call (.Name x p) [] kws pos) (tCallN n ks.length sp gV E tNil tk) := by
  refine ⟨fun pins s σ H Q I h => wpAny_Call_Name_kw (ld_glob I hg hm ?_ hdb)⟩
  refine PySem.W.callWith_KW0 (h₀ := X.base) I.ok.mod.kin hk hall ?_ hpl
  refine thn (hkw.run pos pins s σ H _ I h) fun ws c ⟨zs, G, J, rz, l1, l2, q⟩ => ⟨J.kIn, ?_⟩
  rw [hks]
  exact run_fnN (us := []) F hr hb hx J .nil rz l1 l2 q
end
theorem pi_lstK {X : Cx} (K : PySem.W.Frag) {tg l : Expr} {tl : TE} (hl : PE X l tl) (h : X.K = K := by rfl) : PI X tg l (iList K tl) := by
  subst h
  exact pi_list hl
/-- a walk over one thing or another -/
theorem pi_or {X : Cx} {tg l : Expr} {t1 t2 : TI} (h1 : PI X tg l t1) (h2 : PI X tg l t2) : PI X tg l (fun σ H R => t1 σ H R ∨ t2 σ H R) :=
  ⟨fun pins s σ H R I h => h.elim (h1.run pins s σ H R I) (h2.run pins s σ H R I)⟩
theorem pi_seq {X : Cx} {tg l : Expr} {tl : TE} (hl : PE X l tl) : PI X tg l (fun σ H R => iList X.K tl σ H R ∨ iTup X.K tl σ H R) := pi_or (pi_list hl) (pi_tup hl)
end RP

/-! ### sorted(d.items()), d a dict with whole numbers as keys and any values -/
namespace HS
open PySem PySem.Spec PyProof.Rows L2
section
variable {X : Cx}
abbrev entV (e : Int × V) : L2.Key × V := (Sum.inl e.1, e.2)
def rSortItV : List V → Hp → VK → Prop := fun vs H Q => ∃ (p a : Addr) (ks : List (Int × V)), vs = [.ref p] ∧ H p = some (DX.itemsO p a) ∧ H a = some (.dK (ks.map entV)) ∧
  ∀ (H' : Hp) (l : Addr) (ps : List (Addr × Int × V)), (∀ b o, H b = some o → H' b = some o) → H l = none → (ps.map (·.2)).Perm ks → (ps.map (·.2)).Pairwise (fun e f => e.1 < f.1) → H' l = some (.lst (ps.map fun z => V.ref z.1)) →
    (∀ z ∈ ps, H' z.1 = some (.tup [.int z.2.1, z.2.2])) → Q (.ref l) H'
theorem kv_atV : ∀ {ks : List (Int × V)} {vs : List (L2.Key × Value)}, KV (ks.map entV) vs → ∀ (j : Nat) (kv : L2.Key × Value), vs[j]? = some kv → ∃ e, ks[j]? = some e ∧ kv.1 = Sum.inl e.1 ∧ RelV e.2 kv.2
  | [], _, h, j, kv, q => by
    cases h
    simp at q
  | e :: ks, _, h, j, kv, q => by
    cases h with
    | cons r rs =>
      cases j with
      | zero =>
        have q' := Option.some.inj q
        obtain ⟨r1, r2⟩ := r
        exact ⟨e, rfl, by rw [← q']; exact r1.symm, by rw [← q']; exact r2⟩
      | succ j => exact kv_atV (ks := ks) rs j kv q
theorem cr_sortedItV (hc : X.calm = true) : CallR X (.builtin "sorted") rSortItV := by
  intro pins s σ H xs us Q I r h
  obtain ⟨p, a, ks, rfl, hp, ha, q⟩ := h
  obtain rfl := Vals.ref1 r
  have view : s.heap.IsItemsView p a := (show ObjOk X.prog X.w H s.heap p (DX.itemsO p a) from I.hok p _ hp).1
  obtain ⟨z, hd, vs', rel, o, es, ep, ho, hx, hdat, hko, hpairs, hnd⟩ := dk_of I.hok ha
  have l1 : (ks.map entV).length = vs'.length := Paired.length rel
  rw [List.length_map] at l1
  have l2 : es.size = vs'.length := by
    rw [← Pairs.length hpairs, Array.length_toList]
  rw [List.length_map] at z
  have hh : X.A.handled = none := I.ok.hd hc
  refine DT.sortedI (es := es) (ep := ep) hh view ⟨o, ho, hx, hdat⟩ (by omega) fun h' tk as hk hlt hl hG => ?_
  have lak : as.length = ks.length := by omega
  have nd : as.Nodup := List.Pairwise.imp (fun h => Nat.ne_of_lt h) hG.rise
  have pr : ∀ (j : Nat) (b : Addr), as[j]? = some b → ∃ (e : Int × V) (t : Tok) (v : Value), ks[j]? = some e ∧ RelV e.2 v ∧ h'.get? b = some { cls := .type "tuple", data := .seq #[Value.int e.1 t, v] } := by
    intro j b hj
    obtain ⟨en, he, hg⟩ := hG.pairs j b hj
    obtain ⟨kv, h1, h2, h3⟩ := pairs_at hpairs j en (by rw [Array.getElem?_toList]; exact he)
    obtain ⟨e, h4, h5, h6⟩ := kv_atV rel j kv h1
    rcases keyIs_shape h2 with ⟨i, t, e1, e2⟩ | ⟨i, t, e1, e2⟩
    · rw [h5] at e1
      cases e1
      rw [e2, h3] at hg
      exact ⟨e, t, kv.2, h4, h6, hg⟩
    · rw [h5] at e1
      cases e1
  have knd : (ks.map (·.1)).Nodup := by
    have e : vs'.map (·.1) = ks.map fun e => (Sum.inl e.1 : L2.Key) := by
      refine List.ext_getElem? fun j => ?_
      rw [List.getElem?_map, List.getElem?_map]
      cases hv : vs'[j]? with
      | none =>
        have : ks[j]? = none := List.getElem?_eq_none (by rw [l1]; exact List.getElem?_eq_none_iff.mp hv)
        rw [this]
        rfl
      | some kv =>
        obtain ⟨e, h4, h5, _⟩ := kv_atV rel j kv hv
        rw [h4]
        show some kv.1 = some _
        rw [h5]
    rw [e] at hnd
    exact List.pairwise_map.mpr (List.Pairwise.imp (fun {x y} h z => h (congrArg Sum.inl z)) (List.pairwise_map.mp hnd))
  have hob : (h'.push { cls := .type "list", data := .seq (as.map Value.ref).toArray }).get? h'.objs.size = some (seqObj "list" (as.map Value.ref).toArray 0) := Heap.get?_push_size _ rfl
  have kb : ∀ b o, s.heap.get? b = some o → (h'.push { cls := .type "list", data := .seq (as.map Value.ref).toArray }).get? b = some o := fun b o e => Heap.get?_push_of_some _ (hk b o e)
  have ne0 : ∀ b o, h'.get? b = some o → b ≠ h'.objs.size := fun b o e => Nat.ne_of_lt (Heap.lt_size e)
  generalize hh2 : h'.push { cls := .type "list", data := .seq (as.map Value.ref).toArray } = h2 at hob kb ⊢
  have ka : ∀ b o, h'.get? b = some o → h2.get? b = some o := fun b o e => by rw [← hh2]; exact Heap.get?_push_of_some _ e
  have at_ : ∀ v ∈ as.map Value.ref, ∃ (j : Nat) (b : Addr) (e : Int × V) (t : Tok) (u : Value), v = .ref b ∧ as[j]? = some b ∧ ks[j]? = some e ∧ h'.get? b = some { cls := .type "tuple", data := .seq #[Value.int e.1 t, u] } := by
    intro v hv'
    obtain ⟨b, hb, rfl⟩ := List.mem_map.mp hv'
    obtain ⟨j, hj⟩ := List.mem_iff_getElem?.mp hb
    obtain ⟨e, t, u, he, _, hg⟩ := pr j b hj
    exact ⟨j, b, e, t, u, rfl, hj, he, hg⟩
  have kf : ∀ (b : Addr) (e : Int × V) (t : Tok) (u : Value), h'.get? b = some { cls := .type "tuple", data := .seq #[Value.int e.1 t, u] } → kfI h' (.ref b) = e.1 := fun b e t u hg => kfI_of hg rfl
  have ent : ∀ v ∈ as.map Value.ref, IsEnt h2 v (kfI h' v) := by
    intro v hv
    obtain ⟨j, b, e, t, u, rfl, _, _, hg⟩ := at_ v hv
    exact ⟨b, _, t, u, 0, rfl, ka _ _ hg, rfl, by rw [kf b e t u hg]⟩
  have inj : ∀ v ∈ as.map Value.ref, ∀ u ∈ as.map Value.ref, kfI h' v = kfI h' u → v = u := by
    intro v hv u hu hvu
    obtain ⟨j, b, e, t, x1, rfl, j1, j2, hg⟩ := at_ v hv
    obtain ⟨i, c, f, t', x2, rfl, i1, i2, hg'⟩ := at_ u hu
    rw [kf b e t _ hg, kf c f t' _ hg'] at hvu
    have ej : (ks.map (·.1))[j]? = some e.1 := by rw [List.getElem?_map, j2]; rfl
    have ei : (ks.map (·.1))[i]? = some e.1 := by rw [List.getElem?_map, i2, hvu]; rfl
    have eij : j = i := (List.getElem?_inj (List.getElem?_eq_some_iff.mp ej).1 knd).mp (ej.trans ei.symm)
    subst eij
    rw [i1] at j1
    cases j1
    rfl
  refine wpAny_call_entry PyProof.Rows.slot_list_sort ⟨_, hob, rfl⟩ PyProof.Rows.entry_list_sort
    (SrtO.list_sort_ord (s := { s with heap := h2, toks := tk }) (swo_int (kfI h')) hob (by rw [List.length_map]; omega) (fun h2' => ents_sortable (s := { s with heap := h2, toks := tk }) (by omega) ent inj fun o e => ?_) fun out o1 o2 => ⟨.none, rfl, ?_⟩) (PyProof.Rows.args_list_sort _)
  · have e' : some o = some (seqObj "list" (as.map Value.ref).toArray 0) := e.symm.trans hob
    cases e'
    intro c
    exact absurd (Value.type.inj c) (by decide)
  · show EP X pins σ Q (.ref h'.objs.size) { s with heap := sortedHeap h2 h'.objs.size (as.map Value.ref) out.toArray, toks := tk }
    obtain ⟨zs, pz, ez⟩ := perm_lift (fun z : Addr × Int × V => Value.ref z.1) o2.perm (as.zip ks) (by
      rw [show (fun z : Addr × Int × V => Value.ref z.1) = Value.ref ∘ Prod.fst from rfl, ← List.map_map, List.map_fst_zip (by omega)])
    have idx : ∀ z ∈ zs, ∃ j : Nat, as[j]? = some z.1 ∧ ks[j]? = some z.2 := by
      intro z' hz'
      obtain ⟨j, hj⟩ := List.mem_iff_getElem?.mp (pz.mem_iff.mp hz')
      exact ⟨j, List.getElem?_zip_eq_some.mp hj⟩
    have hperm : (zs.map (·.2)).Perm ks := by
      have e := pz.map (·.2)
      have m2 : (as.zip ks).map (·.2) = ks := List.map_snd_zip (by rw [lak]; exact Nat.le_refl _)
      rw [m2] at e
      exact e
    have kz : ∀ z ∈ zs, kfI h' (.ref z.1) = z.2.1 := fun z hz => by
      obtain ⟨j, j1, j2⟩ := idx z hz
      obtain ⟨e, t, u, he, _, hg⟩ := pr j _ j1
      rw [kf _ e t u hg]
      rw [he] at j2
      cases j2
      rfl
    have hsort : (zs.map (·.2)).Pairwise (fun e f => e.1 < f.1) := by
      have le : (zs.map (·.2)).Pairwise (fun e f => e.1 ≤ f.1) := by
        have o1' : out.Pairwise (fun v u => decide (kfI h' u < kfI h' v) = false) := o1
        rw [← ez, List.pairwise_map] at o1'
        rw [List.pairwise_map]
        refine List.Pairwise.imp_of_mem (fun {x y} hx hy h => ?_) o1'
        have h2 := of_decide_eq_false h
        rw [kz x hx, kz y hy] at h2
        omega
      have ne : (zs.map (·.2)).Pairwise (fun e f => e.1 ≠ f.1) := by
        have n1 : ((zs.map (·.2)).map (·.1)).Nodup := (hperm.map (·.1)).nodup_iff.mpr knd
        exact List.pairwise_map.mp n1
      exact List.Pairwise.imp (fun {x y} h => by have := h.1; have := h.2; omega) (List.Pairwise.and le ne)
    have kF : ∀ b o, b ≠ h'.objs.size → h2.get? b = some o → (sortedHeap h2 h'.objs.size (as.map Value.ref) out.toArray).get? b = some o := fun b o hb e => (PyProof.Rows.sortedHeap_old hb (Heap.lt_size e)).trans e
    have kS : ∀ b o, s.heap.get? b = some o → (sortedHeap h2 h'.objs.size (as.map Value.ref) out.toArray).get? b = some o := fun b o e => kF b o (ne0 _ _ (hk b o e)) (kb b o e)
    obtain ⟨eF, heF⟩ := PyProof.Rows.sortedHeap_at (vs := as.map Value.ref) (out := out.toArray) hob
    have I1 : Inv X pins σ H { s with heap := sortedHeap h2 h'.objs.size (as.map Value.ref) out.toArray, toks := tk } := I.kept (t' := tk) kS
    have hn0 : H h'.objs.size = none := I.hok.fresh (Nat.le_of_lt hlt)
    have hlen : (zs.map fun z => V.ref z.1).length ≤ sizeLine := by
      have e := hperm.length_eq
      rw [List.length_map] at e
      rw [List.length_map]
      omega
    have rv : Vals (zs.map fun z => V.ref z.1) out := by
      rw [← ez]
      exact vals_maps (fun z : Addr × Int × V => V.ref z.1) (fun z => Value.ref z.1) zs fun _ _ => rfl
    have I2 : Inv X pins σ (upd H h'.objs.size (.lst (zs.map fun z => V.ref z.1))) { s with heap := sortedHeap h2 h'.objs.size (as.map Value.ref) out.toArray, toks := tk } :=
      I1.take (h' := sortedHeap h2 h'.objs.size (as.map Value.ref) out.toArray) (t' := tk) (fun b ob _ e => e) (I.fpOk (Nat.le_of_lt hlt) hn0) ⟨hlen, out, eF, rv, heF⟩
    obtain ⟨H2, I3, g, qt⟩ := DX.takeT (P := fun b vs => ∃ (j : Nat) (e : Int × V), as[j]? = some b ∧ ks[j]? = some e ∧ vs = [.int e.1, e.2]) I as _ I2 nd fun b hb => by
      obtain ⟨j, hj⟩ := List.mem_iff_getElem?.mp hb
      obtain ⟨e, t, u, he, hrel, hg⟩ := pr j b hj
      have hbl : s.heap.objs.size ≤ b := Nat.le_of_lt (hG.above b hb)
      refine ⟨hbl, ?_, [.int e.1, e.2], ⟨j, e, hj, he, rfl⟩, fun H3 => ⟨(by rw [sizeLine_eq]; show 2 ≤ 16777216; omega), [Value.int e.1 t, u], .cons ⟨t, rfl⟩ (.cons hrel .nil), ⟨_, kF _ _ (ne0 _ _ hg) (ka _ _ hg), rfl, 0, rfl⟩⟩⟩
      rw [upd_ne (ne0 _ _ hg)]
      exact I.hok.fresh hbl
    have gr : ∀ b o, H b = some o → H2 b = some o := fun b o e => g b o (by rw [upd_ne (ne_of_none e hn0)]; exact e)
    refine ⟨.ref h'.objs.size, H2, I3, rfl, q H2 h'.objs.size zs gr hn0 hperm hsort (g _ _ upd_same) fun z' hz' => ?_⟩
    obtain ⟨i, i1, i2⟩ := idx z' hz'
    obtain ⟨vs, ⟨j, e, j1, j2, ev⟩, hH⟩ := qt z'.1 (List.mem_of_getElem? i1)
    have eij : i = j := (List.getElem?_inj (List.getElem?_eq_some_iff.mp i1).1 nd).mp (i1.trans j1.symm)
    subst eij
    have ee : e = z'.2 := Option.some.inj (j2.symm.trans i2)
    rw [ev, ee] at hH
    exact hH
end
end HS

/-! ### x == a text, x any thing that is tracked, a dict too -/
namespace EQT
open PySem PySem.Spec PyProof.Rows L2 PySem.SeqAt
theorem str_eq_declines_any (b : Str) (u : Tok) (l : Addr) (o : Obj) (hc : o.cls = .type "dict") (es : Array DictEntry) (n : Nat) (hd : o.data = .dict es n) :
    Meets (Builtin.«str.__eq__» ⟨[.str b u, .ref l], []⟩) (fun _ R s => s.heap.get? l = some o ∧ R (.ok (.ret .notImplemented)) s) := by
  obtain ⟨cls, dd, data, sl⟩ := o
  simp only at hc hd
  subst hc hd
  exact .of_wp fun prog w A R s h => by obtain ⟨hp, g, d, tk, os⟩ := s; obtain ⟨hl, h⟩ := h; wp_walk using wpAny_loadPart' hl, wpAny_load hl; exact ⟨_, rfl, h⟩
section
variable {A : Around} {s : Shared}
theorem dict_declines {prog : Program} {w : World} {E : Value → Shared → Prop} {l : Addr} (b : Str) (u : Tok) (hl : s.TypeIs (.ref l) "dict") (F1 : Slot "dict" (cmpInfo .Eq).2.1 "dict.__eq__" ∨ True) {Q : Value → Shared → Prop} (hq : Q .notImplemented s) : wpAny (model prog w) A (call (.builtin "dict.__eq__") [.ref l, .str b u]) Q E s := by
  refine wpAny_call_entry F.slot_dict_eq hl F.entry_dict_eq ?_ (F.args_dict_eq_2 _ _)
  show wpAny _ _ (Builtin.Dict.dictSlotArgs "__eq__" ⟨[.ref l, .str b u], []⟩ >>= _) _ _ s
  refine wpAny_bind ?_
  unfold Builtin.Dict.dictSlotArgs
  refine wpAny_bind (wpAny_notOrdered_dict hl ?_)
  show wpAny _ _ (pure (Value.ref l, Value.str b u)) _ _ s
  refine wpAny_pure ?_
  refine wpAny_bind (wpAny_isInstance (T := "str") (U := "dict") (typeIs_str s b u) F.sub_str_dict ?_)
  simp only [Bool.not_false, if_true]
  exact wpAny_bind (wpAny_rule (wpAny_pure ⟨_, rfl, hq⟩))
theorem RcAt.dict_str {l : Addr} (b : Str) (u : Tok) (hlo : ∃ o es n, s.heap.get? l = some o ∧ o.cls = .type "dict" ∧ o.data = .dict es n) (hu : A.units < cLine) : RcAt A s (.ref l) (.str b u) false := fun prog w E Q h => by
  obtain ⟨o, es, n, ho, hc, hd⟩ := id hlo
  have hl : s.TypeIs (.ref l) "dict" := ⟨o, ho, hc⟩
  exact rc_eq_decline_or (k := false) hl (typeIs_str s b u) (by decide) F.sub_str_dict F.slot_dict_eq F.slot_str_eq_refl
    (fun _ hq => dict_declines b u hl (.inr trivial) hq)
    (fun _ hq => call_meets F.slot_str_eq_refl (typeIs_str s b u) F.entry_str_eq (F.args_str_eq_2 _ _) (str_eq_declines_any b u l o hc es n hd) ⟨ho, hq⟩)
    (fun _ hq => wpAny_of_eq (rfl : isSame (.ref l) (.str b u) = pure false) hq) (.inr hu) h
theorem RcAt.str_dict {l : Addr} (b : Str) (u : Tok) (hlo : ∃ o es n, s.heap.get? l = some o ∧ o.cls = .type "dict" ∧ o.data = .dict es n) (hu : A.units < cLine) : RcAt A s (.str b u) (.ref l) false := fun prog w E Q h => by
  obtain ⟨o, es, n, ho, hc, hd⟩ := id hlo
  have hl : s.TypeIs (.ref l) "dict" := ⟨o, ho, hc⟩
  exact rc_eq_decline_or (k := false) (typeIs_str s b u) hl (by decide) F.sub_dict_str F.slot_str_eq F.slot_dict_eq_refl
    (fun _ hq => call_meets F.slot_str_eq (typeIs_str s b u) F.entry_str_eq (F.args_str_eq_2 _ _) (str_eq_declines_any b u l o hc es n hd) ⟨ho, hq⟩)
    (fun _ hq => dict_declines b u hl (.inr trivial) hq)
    (fun _ hq => wpAny_of_eq (rfl : isSame (.str b u) (.ref l) = pure false) hq) (.inr hu) h
theorem EqAt.str_dict {l : Addr} (b : Str) (u : Tok) (hlo : ∃ o es n, s.heap.get? l = some o ∧ o.cls = .type "dict" ∧ o.data = .dict es n) (hu : A.units < cLine) : EqAt A s (.str b u) (.ref l) false := fun prog w E Q h => by
  unfold eqBool
  refine wpAny_holding ?_
  refine wpAny_ite_split (fun hab => absurd (eq_of_beq hab) nofun) (fun _ => ?_)
  exact wpAny_bind (RcAt.str_dict b u hlo hu prog w E _ (wpAny_truthy_bool h))
end
/-- any thing that is tracked: none, a number, a truth, a text, a list, a tuple, a dict -/
def Thg (K : PySem.W.Frag) (H : Hp) (x : V) : Prop := (∃ a xs, x = .ref a ∧ SqL K H a xs) ∨ (∃ a xs, x = .ref a ∧ SqT K H a xs) ∨ (∃ a kvs, x = .ref a ∧ H a = some (.dK kvs)) ∨ scal x (.str Str.empty) = true
/-- it is this text -/
def isStr : V → Str → Bool
  | .str t, z => decide (t = z)
  | _, _ => false
section
variable {X : Cx}
theorem dict_at {pins : List (Addr × Obj)} {σ : L2.St} {H : Hp} {s : Shared} (I : Inv X pins σ H s) {a : Addr} {kvs : List (Key × V)} (h : H a = some (.dK kvs)) : ∃ o es n, s.heap.get? a = some o ∧ o.cls = .type "dict" ∧ o.data = .dict es n := by
  obtain ⟨_, ya, va, ra, da⟩ := (show ObjOk X.prog X.w H s.heap a (.dK kvs) from I.hok a _ h)
  obtain ⟨o, es, ep, h1, h2, h3, _⟩ := da
  exact ⟨o, es, ep, h1, h2.1, h3⟩
def rEqS (K : PySem.W.Frag) : R2 := fun x y H Q => ∃ z, y = .str z ∧ Thg K H x ∧ Q (.bl (isStr x z)) H
theorem op_eqS (hu : X.A.units < cLine) : OpR X (compareOp .Eq) (rEqS X.K) := by
  intro pins s σ H x y v u Q I rx ry h
  obtain ⟨z, rfl, ht, q⟩ := h
  obtain ⟨tu, rfl⟩ := ry
  rcases ht with ⟨a, xs, rfl, ha⟩ | ⟨a, xs, rfl, ha⟩ | ⟨a, kvs, rfl, ha⟩ | hs
  · cases (show v = Value.ref a from rx)
    obtain ⟨us, r1, p1, _⟩ := I.list ha
    exact SeqAt.RcAt.list_str z tu p1.isList hu _ _ _ _ ⟨.bl _, H, I, rfl, q⟩
  · cases (show v = Value.ref a from rx)
    obtain ⟨us, r1, p1, _⟩ := I.tuple ha
    exact SeqAt.RcAt.tuple_str z tu p1 hu _ _ _ _ ⟨.bl _, H, I, rfl, q⟩
  · cases (show v = Value.ref a from rx)
    exact RcAt.dict_str z tu (dict_at I ha) hu _ _ _ _ ⟨.bl _, H, I, rfl, q⟩
  · have e : scal x (.str z) = true ∧ isStr x z = decide (x = .str z) := by
      cases x with
      | str t => exact ⟨rfl, decide_eq_decide.mpr ⟨fun h => by rw [h], fun h => by injection h⟩⟩
      | non => exact ⟨rfl, rfl⟩
      | int i => exact ⟨rfl, (decide_eq_false nofun).symm⟩
      | bl b => exact ⟨rfl, (decide_eq_false nofun).symm⟩
      | _ => exact absurd hs (by simp [scal])
    rw [e.2] at q
    exact op_eq pins s σ H x (.str z) v _ Q I rx ⟨tu, rfl⟩ ⟨e.1, q⟩
/-- a text and any thing -/
theorem eqAt_thg {pins : List (Addr × Obj)} {σ : L2.St} {H : Hp} {s : Shared} (I : Inv X pins σ H s) {A : Around} (hu : A.units < cLine) {x : V} {v : Value} (rx : RelV x v) (ht : Thg X.K H x) (z : Str) (tu : Tok) : EqAt A s (.str z tu) v (isStr x z) := by
  rcases ht with ⟨a, xs, rfl, ha⟩ | ⟨a, xs, rfl, ha⟩ | ⟨a, kvs, rfl, ha⟩ | hs
  · cases (show v = Value.ref a from rx)
    obtain ⟨us, r1, p1, _⟩ := I.list ha
    exact SeqAt.EqAt.str_list z tu p1.isList hu
  · cases (show v = Value.ref a from rx)
    obtain ⟨us, r1, p1, _⟩ := I.tuple ha
    exact SeqAt.EqAt.str_tuple z tu p1 hu
  · cases (show v = Value.ref a from rx)
    exact EqAt.str_dict z tu (dict_at I ha) hu
  · cases x with
    | str t =>
      obtain ⟨t2, rfl⟩ := rx
      have e : (z == t) = isStr (.str t) z := by
        show (z == t) = decide (t = z)
        rw [Bool.eq_iff_iff, beq_iff_eq, decide_eq_true_eq]
        exact eq_comm
      rw [← e]
      exact SeqAt.EqAt.str_str z tu t t2
    | non =>
      cases rx
      exact SeqAt.EqAt.str_none z tu
    | int i =>
      obtain ⟨t2, rfl⟩ := rx
      exact SeqAt.EqAt.str_int z tu i t2
    | bl b =>
      cases rx
      exact SeqAt.EqAt.str_bool z tu b
    | _ => exact absurd hs (by simp [scal])
def rInS (K : PySem.W.Frag) (neg : Bool) : R2 := fun x y H Q => ∃ (p : Addr) (zs : List Str), y = .ref p ∧ SqT K H p (zs.map V.str) ∧ Thg K H x ∧ Q (.bl (if neg then !(zs.any fun z => isStr x z) else zs.any fun z => isStr x z)) H
def hitU (x : V) : Value → Bool
  | .str t _ => isStr x t
  | _ => false
theorem hits_strs {x : V} : ∀ {zs : List Str} {us : List Value}, Vals (zs.map V.str) us → us.any (hitU x) = zs.any fun z => isStr x z
  | [], _, h => by cases h; rfl
  | z :: zs, _, h => by
    cases h with
    | cons r rs =>
      obtain ⟨t, rfl⟩ := r
      rw [List.any_cons, List.any_cons, hits_strs rs]
      rfl
theorem strs_mem {zs : List Str} {us : List Value} (h : Vals (zs.map V.str) us) {u : Value} (hu : u ∈ us) : ∃ z t, u = .str z t := by
  obtain ⟨j, hj⟩ := List.getElem?_of_mem hu
  have hz : ∃ y, (zs.map V.str)[j]? = some y := by
    cases e : (zs.map V.str)[j]? with
    | some y => exact ⟨y, rfl⟩
    | none =>
      rw [h.none_of e] at hj
      cases hj
  obtain ⟨y, hy⟩ := hz
  obtain ⟨u', hu', r⟩ := h.get hy
  rw [hj] at hu'
  cases hu'
  rw [List.getElem?_map] at hy
  cases hz2 : zs[j]? with
  | none => rw [hz2] at hy; cases hy
  | some z =>
    rw [hz2] at hy
    cases hy
    obtain ⟨t, rfl⟩ := r
    exact ⟨z, t, rfl⟩
theorem op_inS (hu : X.A.units + 1 < cLine) : OpR X (compareOp .In) (rInS X.K false) := by
  intro pins s σ H x y v u Q I rx ry h
  obtain ⟨p, zs, rfl, hq, ht, q⟩ := h
  cases ry
  obtain ⟨its, r, pl, hz⟩ := I.tuple hq
  refine SeqAt.in_tupleAt (hitU x) pl (fun w hw => ?_) ⟨.bl _, H, I, rfl, ?_⟩
  · obtain ⟨z, t, rfl⟩ := strs_mem r (show w ∈ its by simpa using hw)
    exact eqAt_thg I hu rx ht z t
  · rw [show its.toArray.any (hitU x) = its.any (hitU x) by simp, hits_strs r]
    exact q
theorem op_notInS (hu : X.A.units + 1 < cLine) : OpR X (compareOp .NotIn) (rInS X.K true) := by
  intro pins s σ H x y v u Q I rx ry h
  obtain ⟨p, zs, rfl, hq, ht, q⟩ := h
  cases ry
  obtain ⟨its, r, pl, hz⟩ := I.tuple hq
  refine SeqAt.notIn_tupleAt (hitU x) pl (fun w hw => ?_) ⟨.bl _, H, I, rfl, ?_⟩
  · obtain ⟨z, t, rfl⟩ := strs_mem r (show w ∈ its by simpa using hw)
    exact eqAt_thg I hu rx ht z t
  · rw [show its.toArray.any (hitU x) = its.any (hitU x) by simp, hits_strs r]
    exact q
/-- t + u, however -/
def rCatTS (K : PySem.W.Frag) : R2 := fun x y H Q => ∃ a b xs ys, x = .ref a ∧ y = .ref b ∧ SqT K H a xs ∧ SqT K H b ys ∧ xs.length + ys.length ≤ sizeLine ∧ ∀ p H', L2.Same H H' → SqT K H' p (xs ++ ys) → Q (.ref p) H'
theorem op_catTS : OpR X (binaryOp .Add) (rCatTS X.K) := by
  intro pins s σ H x y v u Q I rx ry h
  obtain ⟨a, b, xs, ys, rfl, rfl, ha, hb, hz, q⟩ := h
  refine op_catA pins s σ H _ _ v u Q I rx ry ⟨a, b, xs, ys, rfl, rfl, ha, hb, hz, fun e => ?_, fun _ e => ?_, fun _ _ p hp => q p _ (HX.same_new hp) (SqT.of upd_same)⟩
  · subst e
    exact q b H (L2.Same.refl H) hb
  · subst e
    exact q a H (L2.Same.refl H) (by rw [List.append_nil]; exact ha)
end
end EQT

/-! ### a tuple turned about: t[::-1] -/
namespace EQT
open PySem PySem.Spec PyProof.Rows L2 HT HX PySem.W
theorem fm_congr {α β : Type} {f g : α → Option β} : ∀ {l : List α}, (∀ x ∈ l, f x = g x) → l.filterMap f = l.filterMap g
  | [], _ => rfl
  | a :: l, h => by
    have ih := fm_congr (l := l) fun x hx => h x (List.mem_cons_of_mem _ hx)
    rw [List.filterMap_cons, List.filterMap_cons, h a (List.mem_cons_self ..), ih]
theorem pick_rev (xs : Array Value) : ((List.range xs.size).filterMap fun (m : Nat) => xs[((xs.size : Int) - 1 + (m : Int) * (-1)).toNat]?).toArray = xs.toList.reverse.toArray := by
  have e : (List.range xs.size).filterMap (fun (m : Nat) => xs[((xs.size : Int) - 1 + (m : Int) * (-1)).toNat]?) = ((List.range xs.size).reverse).filterMap fun m => xs[m]? := by
    rw [← krv_range, List.filterMap_map]
    refine fm_congr fun m hm => ?_
    have := List.mem_range.mp hm
    show xs[((xs.size : Int) - 1 + (m : Int) * (-1)).toNat]? = xs[xs.size - 1 - m]?
    rw [show ((xs.size : Int) - 1 + (m : Int) * (-1)).toNat = xs.size - 1 - m by omega]
  rw [e, List.filterMap_reverse]
  congr 2
  exact krv_all xs
section
variable {prog : Program} {w : World} {A : Around} {E : Value → Shared → Prop} {s : Shared}
theorem adjust_rev (n : Nat) : Builtin.Slice.sliceAdjust none none (-1) (n : Int) = ((n : Int) - 1, -1) := by
  unfold Builtin.Slice.sliceAdjust
  simp
theorem places_rev (n : Nat) : Builtin.Slice.slicePlaces ((n : Int) - 1) (-1) (-1) = n := by
  unfold Builtin.Slice.slicePlaces
  simp
  split <;> omega
theorem sliceApplied_rev {sl : Addr} {vs : Value} {n : Nat} {Q : Int × Int × Nat → Shared → Prop} (hs : s.heap.IsSliceOf sl .none .none vs) (ps : IsPart vs (some (-1)))
    (h : Q ((n : Int) - 1, -1, n) s) : wpAny (model prog w) A (Builtin.Slice.sliceApplied (.ref sl) (pure (n : Int))) Q E s := by
  obtain ⟨os, hos, hcs, hds⟩ := id hs
  unfold Builtin.Slice.sliceApplied Builtin.Slice.sliceFields
  refine wpAny_bind (wpAny_bind (wpAny_field hos hds (x := .none) rfl (wpAny_bind (wpAny_field hos hds (x := .none) rfl (wpAny_bind (wpAny_field hos hds (x := vs) rfl (wpAny_pure ?_)))))))
  refine wpAny_bind (slicePart_ ps ?_)
  show wpAny _ _ (if ((-1 : Int) == 0) = true then _ else _) _ _ s
  rw [if_neg (by decide)]
  refine wpAny_bind (slicePart_none (wpAny_bind (slicePart_none (wpAny_bind (wpAny_pure ?_)))))
  show wpAny _ _ (match Builtin.Slice.sliceAdjust none none (-1) (n : Int) with | (lo, hi) => pure (lo, (-1 : Int), Builtin.Slice.slicePlaces lo hi (-1))) _ _ s
  rw [adjust_rev n]
  show wpAny _ _ (pure ((n : Int) - 1, (-1 : Int), Builtin.Slice.slicePlaces ((n : Int) - 1) (-1) (-1))) _ _ s
  rw [places_rev]
  exact wpAny_pure h
theorem getItem_tuple_rev {t sl : Addr} {items : Array Value} {vs : Value} {Q : Value → Shared → Prop} (ht : IsTup s.heap t items) (hs : s.heap.IsSliceOf sl .none .none vs) (ps : IsPart vs (some (-1)))
    (h : Q (.ref s.heap.objs.size) { s with heap := s.heap.push { cls := .type "tuple", data := .seq items.toList.reverse.toArray } })
    (hsz : items.size ≤ sizeLine) : wpAny (model prog w) A (getItem (.ref t) (.ref sl)) Q E s := by
  have htake : sizeOk (.seq items.toList.reverse.toArray) := by
    show items.toList.reverse.toArray.size ≤ sizeLine
    rw [List.size_toArray, List.length_reverse, Array.length_toList]
    exact hsz
  obtain ⟨os, hos, hcs, hds⟩ := id hs
  have hTs : s.TypeIs (.ref sl) "slice" := ⟨os, hos, hcs⟩
  unfold getItem
  try with_reducible refine wpAny_holding ?_
  first | refine wpAny_bind (wpAny_pure ?_) | skip
  refine wpAny_bind (wpAny_sequenceKey ht.typeIs (by decide) ?_)
  refine wpAny_bind (wpAny_callSpecial?_slot (name := Str.ofString "__getitem__") ht.typeIs PyProof.Rows.slot_tuple_getitem
    (wpAny_call_entry PyProof.Rows.slot_tuple_getitem ht.typeIs entry_tuple_getitem ?_ (args_tuple_getitem _ _)))
  show wpAny _ _ (Builtin.Tuple.tupleItemsOf (.ref t) >>= _) _ _ s
  refine wpAny_bind (tupleItemsOf_ ht ?_)
  refine wpAny_bind (wpAny_typeOf hTs ?_)
  rw [if_pos (by decide)]
  refine wpAny_bind (sliceApplied_rev hs ps ?_)
  have hno : ¬ (((items.size : Int) - 1 == 0 && (-1 : Int) == 1 && items.size == items.size) = true) := by
    intro q
    rw [Bool.and_eq_true, Bool.and_eq_true] at q
    exact absurd (eq_of_beq q.1.2) (by decide)
  show wpAny _ _ (if ((items.size : Int) - 1 == 0 && (-1 : Int) == 1 && items.size == items.size) = true then _ else _) _ _ s
  rw [if_neg hno, pick_rev]
  first
    | exact wpAny_bind (m := Builtin.Tuple.tupleExact _) (wpAny_newObj_type (wpAny_pure ⟨_, rfl, wpAny_pure h⟩) htake)
    | exact wpAny_bind (m := Builtin.Tuple.tupleExact _) (wpAny_newObj_type (wpAny_bind (wpAny_pure (wpAny_pure ⟨_, rfl, wpAny_pure h⟩))) htake)
    | exact wpAny_bind (wpAny_bind (m := Builtin.Tuple.tupleExact _) (wpAny_newObj_type (wpAny_pure (wpAny_pure ⟨_, rfl, wpAny_pure h⟩)) htake))
    | exact wpAny_bind (wpAny_bind (m := Builtin.Tuple.tupleExact _) (wpAny_newObj_type (wpAny_pure ⟨_, rfl, wpAny_pure h⟩) htake))
end
/-! the rule -/
def tRevT (K : PySem.W.Frag) (te : TE) : TE := fun σ H Q => te σ H fun x H1 => ∃ a xs, x = .ref a ∧ SqT K H1 a xs ∧ ∀ p H2, Same H1 H2 → H1 p = none → RU.FzT H2 p xs.reverse → Q (.ref p) H2
theorem pe_revT {X : Cx} {e : Expr} {te : TE} {k : Nat} {p1 p2 p3 pos : Pos} (he : PE X e te) : PE X (.Subscript e (.Slice none none (some (.UnaryOp .USub (.Constant (.int 1) k p1) p2)) p3) pos) (tRevT X.K te) := by
  refine ⟨fun pins s σ H Q I h => ?_⟩
  refine Subscript_ (thn (he.run pins s σ H _ I h) fun v s1 ⟨x, H1, I1, r1, q1⟩ => ?_)
  obtain ⟨a, xs, ex, hx, q⟩ := q1
  subst ex
  cases r1
  have hst : PO X (some (.UnaryOp .USub (.Constant (.int 1) k p1) p2)) (tPart (tUn (rU fun i => .int (-i)) (tC (.int 1)))) := po_some (pe_un un_neg pe_int)
  refine wpAny_Slice (thn (po_none.run pins s1 σ H1 (fun o H2 => o = none ∧ H2 = H1) I1 ⟨rfl, rfl⟩) fun vl s2 ⟨l, H2, I2, pl, el, e2⟩ => ?_)
  subst el e2
  refine thn (po_none.run pins s2 σ H2 (fun o H3 => o = none ∧ H3 = H2) I2 ⟨rfl, rfl⟩) fun vu s3 ⟨u, H3, I3, pu, eu, e3⟩ => ?_
  subst eu e3
  refine thn (hst.run pins s3 σ H3 (fun o H4 => o = some (-1) ∧ H4 = H3) I3 ⟨1, rfl, -1, rfl, rfl, rfl⟩) fun vs s4 ⟨o, H4, I4, ps, eo, e4⟩ => ?_
  subst eo e4
  cases pl
  cases pu
  have I5 : Inv X pins σ H4 { s4 with heap := s4.heap.push { cls := .type "slice", data := .fields #[.none, .none, vs] } } := I4.kept (t' := s4.toks) fun b ob q => Heap.get?_push_of_some _ q
  obtain ⟨its, r, ht, hz⟩ := I5.tuple hx
  have hlen := r.length
  show wpAny (model X.prog X.w) X.A (subscriptTail e (.Slice none none (some (.UnaryOp .USub (.Constant (.int 1) k p1) p2)) p3) (.ref a) (.ref s4.heap.objs.size)) (EP X pins σ Q) X.xe { s4 with heap := s4.heap.push { cls := .type "slice", data := .fields #[.none, .none, vs] } }
  refine tail_any (ops := [.ref a, .ref s4.heap.objs.size]) ht.typeIs (PyProof.Rows.slot_tuple_getitem.lookup) ?_ (by with_unfolding_all rfl)
  refine getItem_tuple_rev ht (Heap.IsSliceOf.new _ .none .none vs) ps ?_ (by rw [List.size_toArray]; omega)
  let ob : Obj := { cls := .type "tuple", data := .seq its.toArray.toList.reverse.toArray }
  refine ⟨.ref _, _, I5.laid (t' := s4.toks) (o := .frz ob (.tup xs.reverse)) (fun b u z => Heap.get?_push_of_some _ z) (Nat.le_refl _) ?_, rfl, q _ _ (same_new (I5.hok.fresh (Nat.le_refl _))) (I5.hok.fresh (Nat.le_refl _)) ⟨ob, upd_same, rfl⟩⟩
  exact ⟨Heap.get?_push_size _ rfl, by rw [List.length_reverse]; exact hz, _, by simpa [ob] using r.reverse, _, Heap.get?_push_size _ rfl, rfl, _, rfl⟩
end EQT

/-! ### a tuple many times: t * n -/
namespace EQT
open PySem PySem.Spec PyProof.Rows L2 HT HX PySem.W
theorem tuple_mulSelf (l : Addr) (items : Array Value) (n : Nat) (dd : Option Addr) (sl : Array (Option Value)) (x : Int) (u : Tok) (c0 : (decide (x < -(2 ^ 63)) || decide (x ≥ 2 ^ 63)) = false) (c1 : (items.isEmpty || x == 1) = true) :
    Meets (Builtin.«tuple.__mul__» ⟨[.ref l, .int x u], []⟩) (fun _ R s => s.heap.get? l = some { cls := .type "tuple", dict := dd, data := .seq items n, slots := sl } ∧ R (.ok (.ret (Value.ref l))) s) :=
  .of_wp fun prog w A R s h => by
    obtain ⟨hp, g, d, tk, os⟩ := s
    obtain ⟨hl, h⟩ := h
    have f1 := AutoSeq1.idx_int
    wp_walk using wpAny_loadPart' hl
    repeat (first
      | (refine wpAny_ite_false (decide_eq_false (by rw [c0]; exact Bool.false_ne_true)) ?_; wp_walk using wpAny_loadPart' hl)
      | (refine wpAny_ite_true (decide_eq_true (by rw [c1])) ?_; wp_walk using wpAny_loadPart' hl))
    exact ⟨_, rfl, h⟩
def rRepTS (K : PySem.W.Frag) : R2 := fun x y H Q => ∃ l k xs, x = .ref l ∧ y = .int k ∧ SqT K H l xs ∧ 1 ≤ k ∧ k ≤ 1000 ∧ xs.length ≤ 1000 ∧ ∀ p H', L2.Same H H' → (p = l ∨ H p = none) → SqT K H' p (List.replicate k.toNat xs).flatten → Q (.ref p) H'
section
variable {X : Cx}
theorem rep_self {α : Type} {xs : List α} {k : Int} (h : xs = [] ∨ k = 1) : (List.replicate k.toNat xs).flatten = xs := by
  rcases h with rfl | rfl
  · induction k.toNat with
    | zero => rfl
    | succ n ih => rw [List.replicate_succ, List.flatten_cons, ih]; rfl
  · show (List.replicate 1 xs).flatten = xs
    simp
theorem op_repTS : OpR X (binaryOp .Mult) (rRepTS X.K) := by
  intro pins s σ H x y v u Q I rx ry h
  obtain ⟨l, k, xs, rfl, rfl, hT, h1, h2, hz, q⟩ := h
  by_cases c : xs = [] ∨ k = 1
  · cases rx
    obtain ⟨t, rfl⟩ := ry
    obtain ⟨its, r, ⟨⟨cls, dd, data, sl⟩, ho, hc, n, hd⟩, hs⟩ := I.tuple hT
    simp only at hc hd
    subst hc hd
    have hle : its.length = xs.length := r.length.symm
    have c0 : (decide (k < -(2 ^ 63)) || decide (k ≥ 2 ^ 63)) = false := by
      rw [decide_eq_false (by omega), decide_eq_false (by omega)] <;> rfl
    have c1 : (its.toArray.isEmpty || k == 1) = true := by
      rcases c with rfl | rfl
      · have e : its = [] := List.eq_nil_of_length_eq_zero hle
        subst e
        rfl
      · exact Bool.or_true _
    refine wpAny_binaryOp_repeat_ref (T := "tuple") (U := "int") (by decide) ⟨_, ho, rfl⟩ (fun s' => typeIs_int s' k t) noFill_tuple_mul F.fills_int_mul F.slot_int_rmul repeat_tuple F.slot_int_index.lookup
      (call_meets F.slot_int_rmul (typeIs_int s k t) F.entry_int_rmul (F.args_int_rmul_2 _ _) (int_rmul_tuple k t l its.toArray n dd sl)
        ⟨ho, rfl, ⟨_, ho, rfl⟩, call_meets F.slot_tuple_mul ⟨_, ho, rfl⟩ F.entry_tuple_mul (F.args_tuple_mul_2 _ _) (tuple_mulSelf l its.toArray n dd sl k t c0 c1) ⟨ho, ?_⟩⟩)
    exact ⟨.ref l, H, I, rfl, q l H (L2.Same.refl H) (.inl rfl) (by rw [rep_self c]; exact hT)⟩
  · exact op_repT pins s σ H _ _ v u Q I rx ry ⟨l, k, xs, rfl, rfl, hT, fun e => c (.inl e), by omega, h2, hz, fun p hp => q p _ (HX.same_new hp) (.inr hp) (SqT.of upd_same)⟩
end
end EQT
/-! ### methods of a builtin's value in a comprehension -/
namespace EQT
open PySem PySem.Spec PyProof.Rows L2 HT HX PySem.W
section
variable {X : Cx} {o e : Expr} {es : List Expr} {to : TE} {t : TA} {name : Str} {apos cpos : Pos} {T id : String} {r : V → List V → Hp → VK → Prop}
theorem pe_bmK (K : PySem.W.Frag) (pa : PlainAttrs T) (slot : Slot T name id) (hty : typeOf (.builtin id) = pure (.type "method_descriptor")) (hm : MtR X id r) (ho : PE X o to) (ha : PA X (e :: es) t)
    (hk : X.K = K := by rfl)
    (hbase : attributeBase o name X.env (eval o X.env) = eval o X.env := by rfl)
    (hfew : ((backTo cpos (starEach (e :: es) X.env)).all (fun x => !x.1) && (backToKw cpos (keywordEach [] X.env)).all (fun x => x.1.isSome)
      && decide ((e :: es).length + ([] : List Keyword).length + (if ([] : List Keyword).isEmpty then 0 else 1) < 30)) = true := by rfl)
    (hline : (apos.endLine == cpos.line) = true := by rfl) (hs : starEach (e :: es) X.env = (false, eval e X.env) :: starEach es X.env := by rfl) (hplain : (backTo cpos (starEach es X.env)).any (·.1) = false := by rfl) :
    PE X (.Call (.Attribute o name apos) (e :: es) [] cpos) (tBM K T r to t) := by
  subst hk
  exact pe_bm pa slot hty hm ho ha hbase hfew hline hs hplain
theorem mt_indexK (K : PySem.W.Frag) (hk : X.K = K := by rfl) : MtR X "list.index" (rIndex K) := by
  subst hk
  exact mt_index
theorem notInK (K : PySem.W.Frag) (h : X.K = K := by rfl) : OpR X (compareOp .NotIn) (rIn K true) := h ▸ op_notIn_seq
theorem inK (K : PySem.W.Frag) (h : X.K = K := by rfl) : OpR X (compareOp .In) (rIn K false) := h ▸ op_in_seq
theorem call_tupK (K : PySem.W.Frag) (h : X.K = K := by rfl) : CallR X (.type "tuple") (fun xs H Q => ∃ p ys, xs = [.ref p] ∧ SqL K H p ys ∧ ∀ (l : Addr) (H' : Hp), Same H H' → H l = none → RU.FzT H' l ys → Q (.ref l) H') := by
  subst h
  exact RU.call_tupS
/-! sums and parts of tuples: the tuple itself, or a new one -/
def rSlN (K : PySem.W.Frag) : V → Option Int → Option Int → Hp → VK → Prop := fun x lo hi H Q => ∃ a xs, x = .ref a ∧ SqT K H a xs ∧ ∀ p H', L2.Same H H' → (p = a ∨ H p = none) → SqT K H' p (cutV xs lo hi) → Q (.ref p) H'
theorem sl_tupN : SlR X (rSlN X.K) := by
  intro pins s σ H x v vl vu lo hi sl Q I rx hs pl pu h
  obtain ⟨a, xs, rfl, hx, q⟩ := h
  refine sl_tupA pins s σ H _ v vl vu lo hi sl Q I rx hs pl pu ⟨a, xs, rfl, hx, fun ⟨w1, w2⟩ => q a H (L2.Same.refl H) (.inl rfl) ?_, fun _ p hp => q p _ (HX.same_new hp) (.inr hp) (SqT.of upd_same)⟩
  unfold cutV
  rw [w1, w2, List.drop_zero, Nat.sub_zero, List.take_length]
  exact hx
def rCatTN (K : PySem.W.Frag) : R2 := fun x y H Q => ∃ a b xs ys, x = .ref a ∧ y = .ref b ∧ SqT K H a xs ∧ SqT K H b ys ∧ xs.length + ys.length ≤ sizeLine ∧ ∀ p H', L2.Same H H' → (p = a ∨ p = b ∨ H p = none) → SqT K H' p (xs ++ ys) → Q (.ref p) H'
theorem op_catTN : OpR X (binaryOp .Add) (rCatTN X.K) := by
  intro pins s σ H x y v u Q I rx ry h
  obtain ⟨a, b, xs, ys, rfl, rfl, ha, hb, hz, q⟩ := h
  refine op_catA pins s σ H _ _ v u Q I rx ry ⟨a, b, xs, ys, rfl, rfl, ha, hb, hz, fun e => ?_, fun _ e => ?_, fun _ _ p hp => q p _ (HX.same_new hp) (.inr (.inr hp)) (SqT.of upd_same)⟩
  · subst e
    exact q b H (L2.Same.refl H) (.inr (.inl rfl)) hb
  · subst e
    exact q a H (L2.Same.refl H) (.inl rfl) (by rw [List.append_nil]; exact ha)
/-! a list and a list that is given -/
theorem add_given (l : Addr) (items : Array Value) (n : Nat) (b : Addr) (items2 : Array Value) (n2 : Nat) (sl : Array (Option Value)) (hc0 : items.size + items2.size ≤ sizeLine) :
    Meets (Builtin.«list.__add__» ⟨[.ref l, .ref b], []⟩) (fun _ R s => s.heap.get? l = some { cls := .type "list", dict := none, data := .seq items n, slots := #[] } ∧ s.heap.get? b = some { cls := .type "list", dict := none, data := .seq items2 n2, slots := sl } ∧ R (.ok (.ret (Value.ref s.heap.objs.size))) { s with heap := s.heap.push { cls := Value.type "list", data := Data.seq (items ++ items2) }, toks := s.toks }) :=
  .of_wp fun prog w A R s h => by obtain ⟨hp, g, d, tk, os⟩ := s; obtain ⟨hl, hb, h⟩ := h; have f1 := AutoSeq1.idx_int; have f2 := AutoSeq1.sub_tuple_tuple; have f3 := AutoSeq1.sub_list_list; have f4 := AutoSeq1.sub_tuple_list; have f5 := AutoSeq1.sub_list_tuple; wp_walk using wpAny_loadPart' hl, wpAny_loadPart' hb; exact ⟨_, rfl, h⟩
theorem op_catQ : OpR X (binaryOp .Add) (fun x y H Q => ∃ l b xs zs, x = .ref l ∧ y = .ref b ∧ H l = some (.lst xs) ∧ SqL X.K H b zs ∧ xs.length + zs.length ≤ sizeLine ∧ ∀ (p : Addr) (H' : Hp), L2.Same H H' → H p = none → H' p = some (.lst (xs ++ zs)) → Q (.ref p) H') := by
  intro pins s σ H x y v u Q I rx ry h
  obtain ⟨l, b, xs, zs, rfl, rfl, hH, hB, hz, q⟩ := h
  cases rx
  cases ry
  obtain ⟨z, its, n, r, hl, e⟩ := I.lstM hH
  obtain ⟨its2, r2, ⟨⟨cls, dd, data, sl⟩, n2, e2, hc, hdd, hd⟩, z2⟩ := I.list hB
  simp only at hc hdd hd
  subst hc hdd hd
  have l2 := r2.length
  refine concat_meets ⟨_, e, rfl⟩ ⟨_, e2, rfl⟩ noFill_list_add seq_list_add F.slot_list_add F.entry_list_add (F.args_list_add_2 _ _) (add_given l its.toArray n b its2.toArray n2 sl (by rw [List.size_toArray, List.size_toArray]; omega)) ⟨e, e2, ?_⟩
  have ea : its.toArray ++ its2.toArray = (its ++ its2).toArray := by simp
  rw [ea]
  exact ⟨.ref _, _, I.lnew (t' := s.toks) (r.append r2) (by rw [List.length_append]; omega), rfl, q _ _ (HX.same_new I.fresh) I.fresh upd_same⟩
end
end EQT

/-! ### sorted(rows), rows a list of tuples of a whole number and any thing, the numbers unlike -/
namespace HS
open PySem PySem.Spec PyProof.Rows L2
section
variable {X : Cx}
def rSortRow (K : PySem.W.Frag) : List V → Hp → VK → Prop := fun vs H Q => ∃ (a : Addr) (ps : List (Addr × Int × V)), vs = [.ref a] ∧ SqL K H a (ps.map fun z => V.ref z.1) ∧ (∀ z ∈ ps, H z.1 = some (.tup [.int z.2.1, z.2.2])) ∧ (ps.map fun z => z.2.1).Nodup ∧
  ∀ (H' : Hp) (l : Addr) (qs : List (Addr × Int × V)), (∀ b o, H b = some o → H' b = some o) → H l = none → qs.Perm ps → qs.Pairwise (fun e f => e.2.1 < f.2.1) → H' l = some (.lst (qs.map fun z => V.ref z.1)) → Q (.ref l) H'
theorem refs_vals : ∀ {ps : List (Addr × Int × V)} {us : List Value}, Vals (ps.map fun z => V.ref z.1) us → us = ps.map fun z => Value.ref z.1
  | [], _, h => by
    cases h
    rfl
  | z :: ps, _, h => by
    cases h with
    | cons r rs =>
      rw [refs_vals rs]
      exact congrArg (fun v => v :: _) r
theorem cr_sortedRow : CallR X (.builtin "sorted") (rSortRow X.K) := by
  intro pins s σ H vs us Q I r h
  obtain ⟨a, ps, rfl, hs, hx, nd, q⟩ := h
  obtain ⟨its, rv, hl, hz⟩ := I.list hs
  rw [Vals.ref1 r]
  have ei := refs_vals rv
  have ent : ∀ z ∈ ps, IsEnt s.heap (.ref z.1) z.2.1 ∧ kfI s.heap (.ref z.1) = z.2.1 := fun z hz => by
    obtain ⟨_, its2, r2, o, ho, hc, n, hd⟩ := I.hok _ _ (hx z hz)
    obtain ⟨u1, u2, rfl, ri, rj⟩ := vals2 r2
    obtain ⟨t1, rfl⟩ := ri
    exact ⟨⟨z.1, o, t1, u2, n, rfl, ho, hc, hd⟩, kfI_of ho hd⟩
  have inj : ∀ v ∈ its, ∀ u ∈ its, kfI s.heap v = kfI s.heap u → v = u := by
    intro v hv u hu hvu
    rw [ei] at hv hu
    obtain ⟨z, hz, rfl⟩ := List.mem_map.mp hv
    obtain ⟨y, hy, rfl⟩ := List.mem_map.mp hu
    rw [(ent z hz).2, (ent y hy).2] at hvu
    obtain ⟨i, hi⟩ := List.mem_iff_getElem?.mp hz
    obtain ⟨j, hj⟩ := List.mem_iff_getElem?.mp hy
    have e1 : (ps.map fun z => z.2.1)[i]? = some z.2.1 := by rw [List.getElem?_map, hi]; rfl
    have e2 : (ps.map fun z => z.2.1)[j]? = some z.2.1 := by rw [List.getElem?_map, hj, hvu]; rfl
    have eij : i = j := (List.getElem?_inj (List.getElem?_eq_some_iff.mp e1).1 nd).mp (e1.trans e2.symm)
    subst eij
    rw [hi] at hj
    cases hj
    rfl
  refine SrtO.sorted_ord (swo_int (kfI s.heap)) hl.isList (by rw [← rv.length]; exact hz) (fun h2 h₁ a' ha kk => ?_) fun out h1 h2 => ?_
  · refine ents_sortable (s := { s with heap := h₁ }) (by omega) (fun v hv => ?_) inj fun o e => ?_
    · rw [ei] at hv
      obtain ⟨z, hz, rfl⟩ := List.mem_map.mp hv
      obtain ⟨⟨b, o, t, u, n, e, ho, hc, hd⟩, e2⟩ := ent z hz
      rw [e2]
      exact ⟨b, o, t, u, n, e, (kk b o ho).2, hc, hd⟩
    · have e' : some o = some (seqObj "list" its.toArray 0) := e.symm.trans ha
      cases e'
      intro c
      exact absurd (Value.type.inj c) (by decide)
  · obtain ⟨ep, he'⟩ := PyProof.Rows.sortedAll_at s.heap its out.toArray
    obtain ⟨zs, pz, ez⟩ := perm_lift (fun z : Addr × Int × V => Value.ref z.1) h2.perm ps ei.symm
    have rvo : Vals (zs.map fun z => V.ref z.1) out := by
      rw [← ez]
      exact vals_maps (fun z : Addr × Int × V => V.ref z.1) (fun z => Value.ref z.1) zs fun _ _ => rfl
    have hlen : (zs.map fun z => V.ref z.1).length ≤ sizeLine := by
      have e := pz.length_eq
      rw [List.length_map] at hz ⊢
      omega
    have hsort : zs.Pairwise (fun e f => e.2.1 < f.2.1) := by
      have le : zs.Pairwise (fun e f => e.2.1 ≤ f.2.1) := by
        have o1' : out.Pairwise (fun v u => decide (kfI s.heap u < kfI s.heap v) = false) := h1
        rw [← ez, List.pairwise_map] at o1'
        refine List.Pairwise.imp_of_mem (fun {x y} hx hy h => ?_) o1'
        have h2 := of_decide_eq_false h
        rw [(ent x (pz.mem_iff.mp hx)).2, (ent y (pz.mem_iff.mp hy)).2] at h2
        omega
      have ne : zs.Pairwise (fun e f => e.2.1 ≠ f.2.1) := by
        have n1 : (zs.map fun z => z.2.1).Nodup := (pz.map fun z => z.2.1).nodup_iff.mpr nd
        exact List.pairwise_map.mp n1
      exact List.Pairwise.imp (fun {x y} h => by have := h.1; have := h.2; omega) (List.Pairwise.and le ne)
    refine ⟨.ref _, upd H (s.heap.objs.size + 1) (.lst (zs.map fun z => V.ref z.1)), I.laid (t' := s.toks) (fun _ _ => PyProof.Rows.sortedAll_old) (Nat.le_succ _) ⟨hlen, out, ep, rvo, he'⟩, rfl, q _ _ zs (HX.same_new (I.hok.fresh (Nat.le_succ _))) (I.hok.fresh (Nat.le_succ _)) pz hsort upd_same⟩
end
end HS

/-! ### zip of three: TLL -/
namespace RU
open PySem PySem.Spec PyProof.Rows L2 HX RZ
def ItzTLL (K : PySem.W.Frag) (a b c : Addr) : It :=
  ⟨fun i H => ∃ (xs ys zs : List V), SqT K H a xs ∧ SqL K H b ys ∧ SqL K H c zs ∧ i < min (min xs.length ys.length) zs.length,
    fun i H v H' => ∃ T x y z, v = .ref T ∧ H T = none ∧ H' = upd H T (.tup [x, y, z]) ∧ (∀ xs, SqT K H a xs → xs[i]? = some x) ∧ (∀ ys, SqL K H b ys → ys[i]? = some y) ∧ ∀ zs, SqL K H c zs → zs[i]? = some z,
    fun i H => ∃ xs ys zs : List V, SqT K H a xs ∧ SqL K H b ys ∧ SqL K H c zs ∧ i = min (min xs.length ys.length) zs.length⟩
def ZnTLL (z TI TO i1 i2 i3 a b c : Addr) (i : Nat) (h : Heap) : Prop := IsZip h z TI TO .none ∧ IsTupOf3 h TI (.ref i1) (.ref i2) (.ref i3) ∧ (∃ x y u, IsTupOf3 h TO x y u) ∧ h.IsTupleIter i1 a i ∧ h.IsListIter i2 b i ∧ h.IsListIter i3 c i
theorem turn_zipTLL {P : Program} {w : World} {K : PySem.W.Frag} {elts : List Expr} {kk : Nat} {tpos : Pos} {a b c z TI TO i1 i2 i3 : Addr} (S : ZipSep3 z TI TO i1 i2 i3 [i1, a] [i2, b] [i3, c]) (na : a ≠ i1) (nb : b ≠ i2) (nc : c ≠ i3) :
    Turn P w K (.Tuple elts kk tpos) (ItzTLL K a b c) [z, TI, TO, i1, i2, i3] z (ZnTLL z TI TO i1 i2 i3 a b c) where
  mem := by simp
  obj := fun i h st m hm => by
    obtain ⟨hz, hTI, ⟨x, y, u, hTO⟩, ⟨o1, e1, _, d1⟩, ⟨o2, e2, _, d2⟩, ⟨o3, e3, _, d3⟩⟩ := st
    have e' : m = z ∨ m = TI ∨ m = TO ∨ m = i1 ∨ m = i2 ∨ m = i3 := by simpa using hm
    rcases e' with q | q | q | q | q | q
    · rw [q]; exact ⟨_, hz, fun v q => nomatch q⟩
    · rw [q]; exact ⟨_, hTI, fun v q => nomatch q⟩
    · rw [q]; exact ⟨_, hTO, fun v q => nomatch q⟩
    · rw [q]; exact ⟨o1, e1, fun v q => by rw [d1] at q; cases q⟩
    · rw [q]; exact ⟨o2, e2, fun v q => by rw [d2] at q; cases q⟩
    · rw [q]; exact ⟨o3, e3, fun v q => by rw [d3] at q; cases q⟩
  keep := fun i h h' st k => by
    obtain ⟨hz, hTI, ⟨x, y, u, hTO⟩, h1, h2, h3⟩ := st
    exact ⟨k z (by simp) _ hz, k TI (by simp) _ hTI, ⟨x, y, u, k TO (by simp) _ hTO⟩, h1.at fun o q => k i1 (by simp) o q, h2.at fun o q => k i2 (by simp) o q, h3.at fun o q => k i3 (by simp) o q⟩
  item := by
    intro X hP hw hK hc i pins s σ H E I hf st hg
    subst hP hw hK
    obtain ⟨hz, hTI, hTO, h1, h2, h3⟩ := st
    obtain ⟨xs, ys, zs, hqx, hqy, hqz, hlt⟩ := hg
    obtain ⟨its, rv, p, _⟩ := I.tuple hqx
    obtain ⟨its2, rv2, p2, _⟩ := I.list hqy
    obtain ⟨its3, rv3, p3, _⟩ := I.list hqz
    have hh : X.A.handled = none := I.ok.hd hc
    have W := GoesN.zip3 (prog := X.prog) (w := X.w) (A := X.A) (elts := elts) (x1 := kk) (pos := tpos) S (Draws.tuple (A := X.A.in1) hh i1 a na its.toArray) (Draws.list (A := X.A.in1) hh i2 b nb its2.toArray) (Draws.list (A := X.A.in1) hh i3 c nc its3.toArray)
    have l1 := rv.length
    have l2 := rv2.length
    have l3 := rv3.length
    refine W.goes i s (fun u s2 => ∃ x H', Inv X pins σ H' s2 ∧ RelV x u ∧ (ItzTLL X.K a b c).yld i H x H' ∧ ZnTLL z TI TO i1 i2 i3 a b c (i + 1) s2.heap ∧ ∀ b ∈ [z, TI, TO, i1, i2, i3], H' b = none) E (by simp only [List.size_toArray]; omega) ⟨hz, hTI, hTO, ⟨h1, p⟩, ⟨h2, p2.isList⟩, ⟨h3, p3.isList⟩⟩ fun v h' tk hY st' hk htk => ?_
    obtain ⟨T, u1, u2, u3, rfl, hT, e1, e2, e3, hTt⟩ := hY
    have hx : xs[i]? = some (xs[i]'(by omega)) := List.getElem?_eq_getElem (by omega)
    have hy : ys[i]? = some (ys[i]'(by omega)) := List.getElem?_eq_getElem (by omega)
    have hw' : zs[i]? = some (zs[i]'(by omega)) := List.getElem?_eq_getElem (by omega)
    obtain ⟨v1, hu1, r1⟩ := rv.get hx
    obtain ⟨v2, hu2, r2⟩ := rv2.get hy
    obtain ⟨v3, hu3, r3⟩ := rv3.get hw'
    have q1 : v1 = u1 := by
      have : its.toArray[i]? = some v1 := by simpa using hu1
      rw [this] at e1
      exact Option.some.inj e1
    have q2 : v2 = u2 := by
      have : its2.toArray[i]? = some v2 := by simpa using hu2
      rw [this] at e2
      exact Option.some.inj e2
    have q3 : v3 = u3 := by
      have : its3.toArray[i]? = some v3 := by simpa using hu3
      rw [this] at e3
      exact Option.some.inj e3
    subst q1 q2 q3
    have new : ObjOk X.prog X.w (upd H T (.tup [xs[i]'(by omega), ys[i]'(by omega), zs[i]'(by omega)])) h' T (.tup [xs[i]'(by omega), ys[i]'(by omega), zs[i]'(by omega)]) := ⟨by show 3 ≤ sizeLine; decide, [v1, v2, v3], .cons r1 (.cons r2 (.cons r3 .nil)), hTt⟩
    have hf' : ∀ m ∈ [z, TO, i1, i2, i3], FpOk X pins H m := fun m hm => hf m (by
      have e' : m = z ∨ m = TO ∨ m = i1 ∨ m = i2 ∨ m = i3 := by simpa using hm
      rcases e' with q | q | q | q | q <;> simp [q])
    have I1 := I.turnedNew (t' := tk) (ch := [z, TO, i1, i2, i3]) hk hf' hT new
    refine ⟨.ref T, _, I1, rfl, ⟨T, _, _, _, rfl, I.hok.fresh hT, rfl, fun l hl => by rw [I.tuple_inj hl hqx]; exact hx, fun l hl => by rw [I.list_inj hl hqy]; exact hy, fun l hl => by rw [I.list_inj hl hqz]; exact hw'⟩, ⟨st'.1, st'.2.1, st'.2.2.1, st'.2.2.2.1.1, st'.2.2.2.2.1.1, st'.2.2.2.2.2.1⟩, fun m hm => ?_⟩
    have e' : m = z ∨ m = TI ∨ m = TO ∨ m = i1 ∨ m = i2 ∨ m = i3 := by simpa using hm
    have hlt2 : m < s.heap.objs.size := by
      obtain ⟨x, y, u, hTO⟩ := hTO
      rcases e' with q | q | q | q | q | q
      · rw [q]; exact Heap.lt_size hz
      · rw [q]; exact Heap.lt_size hTI
      · rw [q]; exact Heap.lt_size hTO
      · rw [q]; obtain ⟨_, e1, _⟩ := h1; exact Heap.lt_size e1
      · rw [q]; obtain ⟨_, e2, _⟩ := h2; exact Heap.lt_size e2
      · rw [q]; obtain ⟨_, e3, _⟩ := h3; exact Heap.lt_size e3
    rw [upd_ne (Nat.ne_of_lt (Nat.lt_of_lt_of_le hlt2 hT))]
    exact (hf m hm).1
  done := by
    intro X hP hw hK hc i pins s σ H E I hf st hg
    subst hP hw hK
    obtain ⟨hz, hTI, hTO, h1, h2, h3⟩ := st
    obtain ⟨xs, ys, zs, hqx, hqy, hqz, hend⟩ := hg
    obtain ⟨its, rv, p, _⟩ := I.tuple hqx
    obtain ⟨its2, rv2, p2, _⟩ := I.list hqy
    obtain ⟨its3, rv3, p3, _⟩ := I.list hqz
    have hh : X.A.handled = none := I.ok.hd hc
    have W := GoesN.zip3 (prog := X.prog) (w := X.w) (A := X.A) (elts := elts) (x1 := kk) (pos := tpos) S (Draws.tuple (A := X.A.in1) hh i1 a na its.toArray) (Draws.list (A := X.A.in1) hh i2 b nb its2.toArray) (Draws.list (A := X.A.in1) hh i3 c nc its3.toArray)
    have l1 := rv.length
    have l2 := rv2.length
    have l3 := rv3.length
    have en : i = min (min its.toArray.size its2.toArray.size) its3.toArray.size := by simp only [List.size_toArray]; omega
    subst en
    have hf' : ∀ m ∈ [z, TO, i1, i2, i3], FpOk X pins H m := fun m hm => hf m (by
      have e' : m = z ∨ m = TO ∨ m = i1 ∨ m = i2 ∨ m = i3 := by simpa using hm
      rcases e' with q | q | q | q | q <;> simp [q])
    exact W.stops s (fun s1 => Inv X pins σ H s1) E ⟨hz, hTI, hTO, ⟨h1, p⟩, ⟨h2, p2.isList⟩, ⟨h3, p3.isList⟩⟩ fun h' tk hk htk => I.turnedL (t' := tk) (ch := [z, TO, i1, i2, i3]) hk hf'
  self := fun A i s Q E st h => wpAny_pyIter_zip st.1 h
def iZipTLL (K : PySem.W.Frag) (ta : TA) : TI := fun σ H R => ta σ H fun vs H1 => ∃ a b c xs ys zs, vs = [.ref a, .ref b, .ref c] ∧ SqT K H1 a xs ∧ SqL K H1 b ys ∧ SqL K H1 c zs ∧ R (ItzTLL K a b c) H1
theorem pi_zipTLL {X : Cx} {e e2 e3 : Expr} {ta : TA} {p pos tpos : Pos} {elts : List Expr} {kk : Nat} (hg : Gl X "zip") (hm : X.mg "zip" = none) (ha : PA X [e, e2, e3] ta)
    (hs : starEach [e, e2, e3] X.env = (false, eval e X.env) :: starEach [e2, e3] X.env := by rfl) (hpl : (backTo pos (starEach [e2, e3] X.env)).any (·.1) = false := by rfl) :
    PI X (.Tuple elts kk tpos) (.Call (.Name "zip" p) [e, e2, e3] [] pos) (iZipTLL X.K ta) := by
  refine ⟨fun pins s σ H R I h => ?_⟩
  refine Call_ (ld_blt I hg hm PyProof.Rows.boot_zip (PyProof.Rows.callWith_type1 (thn (ha.run pos pins s σ H _ I h) fun us s1 ⟨vs, H1, I1, r1, q1⟩ => ?_) hs hpl))
  obtain ⟨a, b, c, xs, ys, zs, ex, hqx, hqy, hqz, q⟩ := q1
  subst ex
  cases r1 with
  | cons r rr =>
    cases rr with
    | cons r' rr =>
      cases rr with
      | cons r'' rr =>
        cases rr
        cases r
        cases r'
        cases r''
        have fresh6 : ∀ m, m ∈ [s1.heap.objs.size + 5, s1.heap.objs.size + 3, s1.heap.objs.size + 4, s1.heap.objs.size, s1.heap.objs.size + 1, s1.heap.objs.size + 2] → FpOk X pins H1 m := fun m hcm => by
          have e' : m = s1.heap.objs.size + 5 ∨ m = s1.heap.objs.size + 3 ∨ m = s1.heap.objs.size + 4 ∨ m = s1.heap.objs.size ∨ m = s1.heap.objs.size + 1 ∨ m = s1.heap.objs.size + 2 := by simpa using hcm
          have hle : s1.heap.objs.size ≤ m := by
            rcases e' with z | z | z | z | z | z
            · rw [z]; exact Nat.le_add_right _ _
            · rw [z]; exact Nat.le_add_right _ _
            · rw [z]; exact Nat.le_add_right _ _
            · rw [z]; exact Nat.le_refl _
            · rw [z]; exact Nat.le_add_right _ _
            · rw [z]; exact Nat.le_add_right _ _
          exact I1.fpOk hle (I1.hok.fresh hle)
        obtain ⟨its, rv, p1, _⟩ := I1.tuple hqx
        obtain ⟨its2, rv2, p2, _⟩ := I1.list hqy
        obtain ⟨its3, rv3, p3, _⟩ := I1.list hqz
        obtain ⟨o1, ho1, _⟩ := id p1
        obtain ⟨o2, _, ho2, _⟩ := id p2
        obtain ⟨o3, _, ho3, _⟩ := id p3
        have la := Heap.lt_size ho1
        have lb := Heap.lt_size ho2
        have lc := Heap.lt_size ho3
        refine zip_begins3 (begins_tuple a its.toArray) (begins_list b its2.toArray) (begins_list c its3.toArray) p1 p2.isList p3.isList fun h' hz hTI hTO h1 h2 h3 hsz hk => wpAny_pyIter_zip hz ?_
        have I2 : Inv X pins σ H1 { s1 with heap := h' } := I1.kept (t' := s1.toks) hk
        have S : ZipSep3 (s1.heap.objs.size + 5) (s1.heap.objs.size + 3) (s1.heap.objs.size + 4) s1.heap.objs.size (s1.heap.objs.size + 1) (s1.heap.objs.size + 2) [s1.heap.objs.size, a] [s1.heap.objs.size + 1, b] [s1.heap.objs.size + 2, c] :=
          zip_sep3 (fun m hm => by rw [List.mem_singleton.mp hm]; exact la) (fun m hm => by rw [List.mem_singleton.mp hm]; exact lb) (fun m hm => by rw [List.mem_singleton.mp hm]; exact lc)
        exact ⟨s1.heap.objs.size + 5, [s1.heap.objs.size + 5, s1.heap.objs.size + 3, s1.heap.objs.size + 4, s1.heap.objs.size, s1.heap.objs.size + 1, s1.heap.objs.size + 2], _, _, H1, rfl, I2,
          turn_zipTLL S (Nat.ne_of_lt la) (Nat.ne_of_lt (Nat.lt_of_lt_of_le lb (Nat.le_add_right _ _))) (Nat.ne_of_lt (Nat.lt_of_lt_of_le lc (Nat.le_add_right _ _))), ⟨hz, hTI, ⟨_, _, _, hTO⟩, ⟨_, h1, rfl, rfl⟩, ⟨_, h2, rfl, rfl⟩, ⟨_, h3, rfl, rfl⟩⟩, fresh6, q⟩
def YTripTLL (xs ys zs : Nat → Option V) : Nat → Hp → V → Hp → Prop := fun i H v H' => ∃ T x y z, v = .ref T ∧ H T = none ∧ H' = upd H T (.tup [x, y, z]) ∧ xs i = some x ∧ ys i = some y ∧ zs i = some z
theorem walk_zipTLL {K : PySem.W.Frag} {a b c : Addr} {xs ys zs : List V} {n : Nat} (hn : n = min (min xs.length ys.length) zs.length) : Walk (ItzTLL K a b c) n (fun H => SqT K H a xs ∧ SqL K H b ys ∧ SqL K H c zs) (YTripTLL (fun i => xs[i]?) (fun i => ys[i]?) (fun i => zs[i]?)) := by
  subst hn
  refine ⟨fun i _ hi q => ⟨xs, ys, zs, q.1, q.2.1, q.2.2, hi⟩, fun _ q => ⟨xs, ys, zs, q.1, q.2.1, q.2.2, rfl⟩, fun i H v H' _ q y => ?_⟩
  obtain ⟨T, x, y1, z, h1, h2, h3, h4, h5, h6⟩ := y
  exact ⟨T, x, y1, z, h1, h2, h3, h4 xs q.1, h5 ys q.2.1, h6 zs q.2.2⟩
end RU
/-! ### sorted of a tuple of whole numbers -/
namespace HS
open PySem PySem.Spec PyProof.Rows L2
section
variable {X : Cx}
theorem collect_t {prog : Program} {w : World} {A : Around} {E : Value → Shared → Prop} {s : Shared} {Q : List Value → Shared → Prop} (c0 : Addr) {u : Obj} {xs : Array Value} {m : Nat} (g1 : s.heap.get? c0 = some u) (g2 : u.cls = .type "tuple") (g3 : u.data = .seq xs m) (z : xs.size ≤ sizeLine)
    (hQ : ∀ h', (∀ b o, s.heap.get? b = some o → h'.get? b = some o) → s.heap.objs.size ≤ h'.objs.size → Q xs.toList { s with heap := h' }) : wpAny (model prog w) A (collect (.ref c0)) Q E s := by
  have e0 : ∀ g : Heap, g = s.heap.push { cls := .type "list", data := .seq ([] : List Value).toArray } → g.get? s.heap.objs.size = some { cls := .type "list", data := .seq #[] 0 } ∧ (∀ b o, s.heap.get? b = some o → g.get? b = some o) ∧ s.heap.objs.size < g.objs.size := fun g e => by
    have x1 : g.get? s.heap.objs.size = some { cls := .type "list", data := .seq #[] 0 } := by rw [e]; exact Heap.get?_push_size _ rfl
    exact ⟨x1, fun b o k => by rw [e]; exact Heap.get?_push_of_some _ k, Heap.lt_size x1⟩
  obtain ⟨x1, x2, x3⟩ := e0 _ rfl
  unfold collect
  apply wpAny_bind
  apply wpAny_runValue
  apply codeAny_builtin F.entry_proto_collect
  rw [Around.under_plainId F.plain_proto_collect _]
  change wpAny _ A.in1 (newList [] >>= fun v => again (.builtin "list.__iadd__" ⟨[v, .ref c0], []⟩)) _ _ s
  apply wpAny_bind
  refine (wpAny_newObj_type ?_)
  apply wpAny_pure
  refine ⟨plainId_quiet F.plain_list_iadd _, ?_⟩
  apply codeAny_builtin F.entry_list_iadd
  rw [Around.under_plainId F.plain_list_iadd _]
  generalize s.heap.push { cls := .type "list", data := .seq ([] : List Value).toArray } = g at x1 x2 x3 ⊢
  change wpAny _ A.in1 (Builtin.List.listExtendWith (.ref s.heap.objs.size) (.ref c0) (.ref s.heap.objs.size)) _ _ { s with heap := g }
  have y1 := Heap.get?_update_self (Obj.mapSeq (· ++ xs)) x1 rfl
  have y2 : Q xs.toList { s with heap := g.update s.heap.objs.size (Obj.mapSeq (· ++ xs)) } := by
    refine hQ _ (fun b o k => ?_) ?_
    · exact (Heap.get?_update_other _ _ (Nat.ne_of_gt (Heap.lt_size k))).trans (x2 b o k)
    · rw [Heap.size_update]
      exact Nat.le_of_lt x3
  have y3 : ∀ (G : Value → Sem (List Value)), G = (fun v => match v with
      | Value.ref a => do
        match (← load a).data with
          | Data.seq ys _ => pure ys.toList
          | _ => unsupported "internal:collect"
      | _ => unsupported "internal:collect") → wpAny (model prog w) A (G (.ref s.heap.objs.size)) Q E { s with heap := g.update s.heap.objs.size (Obj.mapSeq (· ++ xs)) } := fun G e => by
    rw [e]
    change wpAny _ A (load s.heap.objs.size >>= _) _ _ _
    apply wpAny_bind
    apply wpAny_load y1
    apply wpAny_pure
    have e9 : ((#[] : Array Value) ++ xs).toList = xs.toList := by simp
    change Q ((#[] : Array Value) ++ xs).toList _
    rw [e9]
    exact y2
  refine wpAny_mono (wpAny_extend_seq (hsz := z) (A := A) (R := fun r t => r = .ok (.ret (.ref s.heap.objs.size)) ∧ t = { s with heap := g.update s.heap.objs.size (Obj.mapSeq (· ++ xs)) }) (s := { s with heap := g }) _ c0 _ 0 (.inr rfl) x1 (x2 _ _ g1) g2 g3 ⟨rfl, rfl⟩) (fun f t k => ?_) (fun f t k => ?_)
  · cases f with
    | done f =>
      obtain ⟨e, rfl⟩ := k
      cases e
      exact y3 _ rfl
    | again c => exact ⟨k.1, codeAny_mono k.2 fun r t' kr => by obtain ⟨rfl, rfl⟩ := kr; exact y3 _ rfl⟩
  · exact absurd k.1 (by simp)
def rSortTI (K : PySem.W.Frag) : List V → Hp → VK → Prop := fun vs H Q => ∃ (a : Addr) (ns : List Int), vs = [V.ref a] ∧ SqT K H a (ns.map V.int) ∧
  ∀ (ns' : List Int) (p : Addr) (H' : Hp), L2.Same H H' → ns'.Perm ns → ns'.Pairwise (· ≤ ·) → H p = none → H' p = some (.lst (ns'.map V.int)) → Q (.ref p) H'
theorem cr_sortedTI : CallR X (.builtin "sorted") (rSortTI X.K) := by
  intro pins s σ H vs us Q I r h
  obtain ⟨a, ns, rfl, hs, q⟩ := h
  obtain ⟨its, rv, ⟨o, ho, hc, n, hd⟩, hz⟩ := I.tuple hs
  rw [Vals.ref1 r]
  have hi := rv.ints
  have hlen := rv.length
  have small : its.toArray.toList.length ≤ sizeLine := by
    show its.length ≤ sizeLine
    omega
  apply Calls.call_function_entry kind_sorted plain_sorted entry_sorted (args_sorted1 _)
  unfold Builtin.«sorted»
  apply wpAny_bind (m := checkCount "sorted" 1 1 _)
  apply wpAny_pure
  apply wpAny_bind
  apply collect_t a ho hc hd (by rw [List.size_toArray]; omega)
  intro h1 k1 big
  apply wpAny_bind
  apply wpAny_newList _ small
  have new : (h1.push (seqObj "list" its.toArray 0)).get? h1.objs.size = some (seqObj "list" its.toArray 0) := Heap.get?_push_size _ rfl
  have keep : ∀ b o, s.heap.get? b = some o → b ≠ h1.objs.size ∧ (h1.push (seqObj "list" its.toArray 0)).get? b = some o := fun b o e => ⟨Nat.ne_of_lt (Nat.lt_of_lt_of_le (Heap.lt_size e) big), Heap.get?_push_of_some _ (k1 b o e)⟩
  have lt1 : h1.objs.size < (h1.push (seqObj "list" its.toArray 0)).objs.size := Heap.lt_size new
  generalize h1.push (seqObj "list" its.toArray 0) = h2 at new keep lt1
  apply wpAny_bind
  apply wpAny_holding
  refine wpAny_call_entry slot_list_sort ⟨_, new, rfl⟩ entry_list_sort (SrtO.list_sort_ord SrtO.swo_int new (by omega) (fun g => SrtO.ints_sortable hi g) fun out o1 o2 => ⟨_, rfl, ?_⟩) (args_list_sort _)
  obtain ⟨k2, k3, k4⟩ := SrtO.ints_out hi o1 o2
  obtain ⟨ep, he'⟩ := PyProof.Rows.sortedHeap_at (vs := its) (out := out.toArray) new
  have l9 : ((out.map SrtO.iv).map V.int).length ≤ sizeLine := by
    rw [List.length_map, k3.length_eq]
    rw [List.length_map] at hz
    exact hz
  refine wpAny_pure ⟨_, rfl, .ref _, upd H h1.objs.size (.lst ((out.map SrtO.iv).map V.int)), I.laid (t' := s.toks) (fun b o e => ?_) big ⟨l9, out, ep, vals_of_ints k2, he'⟩, rfl, ?_⟩
  · exact (PyProof.Rows.sortedHeap_old (keep b o e).1 (Heap.lt_size (keep b o e).2)).trans (keep b o e).2
  · exact q _ _ _ (HX.same_new (I.hok.fresh big)) k3 k4 (I.hok.fresh big) upd_same
end
end HS

/-! ### zip of three lists -/
namespace RU
open PySem PySem.Spec PyProof.Rows L2 HX RZ
def ItzLLL (K : PySem.W.Frag) (a b c : Addr) : It :=
  ⟨fun i H => ∃ (xs ys zs : List V), SqL K H a xs ∧ SqL K H b ys ∧ SqL K H c zs ∧ i < min (min xs.length ys.length) zs.length,
    fun i H v H' => ∃ T x y z, v = .ref T ∧ H T = none ∧ H' = upd H T (.tup [x, y, z]) ∧ (∀ xs, SqL K H a xs → xs[i]? = some x) ∧ (∀ ys, SqL K H b ys → ys[i]? = some y) ∧ ∀ zs, SqL K H c zs → zs[i]? = some z,
    fun i H => ∃ xs ys zs : List V, SqL K H a xs ∧ SqL K H b ys ∧ SqL K H c zs ∧ i = min (min xs.length ys.length) zs.length⟩
def ZnLLL (z TI TO i1 i2 i3 a b c : Addr) (i : Nat) (h : Heap) : Prop := IsZip h z TI TO .none ∧ IsTupOf3 h TI (.ref i1) (.ref i2) (.ref i3) ∧ (∃ x y u, IsTupOf3 h TO x y u) ∧ h.IsListIter i1 a i ∧ h.IsListIter i2 b i ∧ h.IsListIter i3 c i
theorem turn_zipLLL {P : Program} {w : World} {K : PySem.W.Frag} {elts : List Expr} {kk : Nat} {tpos : Pos} {a b c z TI TO i1 i2 i3 : Addr} (S : ZipSep3 z TI TO i1 i2 i3 [i1, a] [i2, b] [i3, c]) (na : a ≠ i1) (nb : b ≠ i2) (nc : c ≠ i3) :
    Turn P w K (.Tuple elts kk tpos) (ItzLLL K a b c) [z, TI, TO, i1, i2, i3] z (ZnLLL z TI TO i1 i2 i3 a b c) where
  mem := by simp
  obj := fun i h st m hm => by
    obtain ⟨hz, hTI, ⟨x, y, u, hTO⟩, ⟨o1, e1, _, d1⟩, ⟨o2, e2, _, d2⟩, ⟨o3, e3, _, d3⟩⟩ := st
    have e' : m = z ∨ m = TI ∨ m = TO ∨ m = i1 ∨ m = i2 ∨ m = i3 := by simpa using hm
    rcases e' with q | q | q | q | q | q
    · rw [q]; exact ⟨_, hz, fun v q => nomatch q⟩
    · rw [q]; exact ⟨_, hTI, fun v q => nomatch q⟩
    · rw [q]; exact ⟨_, hTO, fun v q => nomatch q⟩
    · rw [q]; exact ⟨o1, e1, fun v q => by rw [d1] at q; cases q⟩
    · rw [q]; exact ⟨o2, e2, fun v q => by rw [d2] at q; cases q⟩
    · rw [q]; exact ⟨o3, e3, fun v q => by rw [d3] at q; cases q⟩
  keep := fun i h h' st k => by
    obtain ⟨hz, hTI, ⟨x, y, u, hTO⟩, h1, h2, h3⟩ := st
    exact ⟨k z (by simp) _ hz, k TI (by simp) _ hTI, ⟨x, y, u, k TO (by simp) _ hTO⟩, h1.at fun o q => k i1 (by simp) o q, h2.at fun o q => k i2 (by simp) o q, h3.at fun o q => k i3 (by simp) o q⟩
  item := by
    intro X hP hw hK hc i pins s σ H E I hf st hg
    subst hP hw hK
    obtain ⟨hz, hTI, hTO, h1, h2, h3⟩ := st
    obtain ⟨xs, ys, zs, hqx, hqy, hqz, hlt⟩ := hg
    obtain ⟨its, rv, p, _⟩ := I.list hqx
    obtain ⟨its2, rv2, p2, _⟩ := I.list hqy
    obtain ⟨its3, rv3, p3, _⟩ := I.list hqz
    have hh : X.A.handled = none := I.ok.hd hc
    have W := GoesN.zip3 (prog := X.prog) (w := X.w) (A := X.A) (elts := elts) (x1 := kk) (pos := tpos) S (Draws.list (A := X.A.in1) hh i1 a na its.toArray) (Draws.list (A := X.A.in1) hh i2 b nb its2.toArray) (Draws.list (A := X.A.in1) hh i3 c nc its3.toArray)
    have l1 := rv.length
    have l2 := rv2.length
    have l3 := rv3.length
    refine W.goes i s (fun u s2 => ∃ x H', Inv X pins σ H' s2 ∧ RelV x u ∧ (ItzLLL X.K a b c).yld i H x H' ∧ ZnLLL z TI TO i1 i2 i3 a b c (i + 1) s2.heap ∧ ∀ b ∈ [z, TI, TO, i1, i2, i3], H' b = none) E (by simp only [List.size_toArray]; omega) ⟨hz, hTI, hTO, ⟨h1, p.isList⟩, ⟨h2, p2.isList⟩, ⟨h3, p3.isList⟩⟩ fun v h' tk hY st' hk htk => ?_
    obtain ⟨T, u1, u2, u3, rfl, hT, e1, e2, e3, hTt⟩ := hY
    have hx : xs[i]? = some (xs[i]'(by omega)) := List.getElem?_eq_getElem (by omega)
    have hy : ys[i]? = some (ys[i]'(by omega)) := List.getElem?_eq_getElem (by omega)
    have hw' : zs[i]? = some (zs[i]'(by omega)) := List.getElem?_eq_getElem (by omega)
    obtain ⟨v1, hu1, r1⟩ := rv.get hx
    obtain ⟨v2, hu2, r2⟩ := rv2.get hy
    obtain ⟨v3, hu3, r3⟩ := rv3.get hw'
    have q1 : v1 = u1 := by
      have : its.toArray[i]? = some v1 := by simpa using hu1
      rw [this] at e1
      exact Option.some.inj e1
    have q2 : v2 = u2 := by
      have : its2.toArray[i]? = some v2 := by simpa using hu2
      rw [this] at e2
      exact Option.some.inj e2
    have q3 : v3 = u3 := by
      have : its3.toArray[i]? = some v3 := by simpa using hu3
      rw [this] at e3
      exact Option.some.inj e3
    subst q1 q2 q3
    have new : ObjOk X.prog X.w (upd H T (.tup [xs[i]'(by omega), ys[i]'(by omega), zs[i]'(by omega)])) h' T (.tup [xs[i]'(by omega), ys[i]'(by omega), zs[i]'(by omega)]) := ⟨by show 3 ≤ sizeLine; decide, [v1, v2, v3], .cons r1 (.cons r2 (.cons r3 .nil)), hTt⟩
    have hf' : ∀ m ∈ [z, TO, i1, i2, i3], FpOk X pins H m := fun m hm => hf m (by
      have e' : m = z ∨ m = TO ∨ m = i1 ∨ m = i2 ∨ m = i3 := by simpa using hm
      rcases e' with q | q | q | q | q <;> simp [q])
    have I1 := I.turnedNew (t' := tk) (ch := [z, TO, i1, i2, i3]) hk hf' hT new
    refine ⟨.ref T, _, I1, rfl, ⟨T, _, _, _, rfl, I.hok.fresh hT, rfl, fun l hl => by rw [I.list_inj hl hqx]; exact hx, fun l hl => by rw [I.list_inj hl hqy]; exact hy, fun l hl => by rw [I.list_inj hl hqz]; exact hw'⟩, ⟨st'.1, st'.2.1, st'.2.2.1, st'.2.2.2.1.1, st'.2.2.2.2.1.1, st'.2.2.2.2.2.1⟩, fun m hm => ?_⟩
    have e' : m = z ∨ m = TI ∨ m = TO ∨ m = i1 ∨ m = i2 ∨ m = i3 := by simpa using hm
    have hlt2 : m < s.heap.objs.size := by
      obtain ⟨x, y, u, hTO⟩ := hTO
      rcases e' with q | q | q | q | q | q
      · rw [q]; exact Heap.lt_size hz
      · rw [q]; exact Heap.lt_size hTI
      · rw [q]; exact Heap.lt_size hTO
      · rw [q]; obtain ⟨_, e1, _⟩ := h1; exact Heap.lt_size e1
      · rw [q]; obtain ⟨_, e2, _⟩ := h2; exact Heap.lt_size e2
      · rw [q]; obtain ⟨_, e3, _⟩ := h3; exact Heap.lt_size e3
    rw [upd_ne (Nat.ne_of_lt (Nat.lt_of_lt_of_le hlt2 hT))]
    exact (hf m hm).1
  done := by
    intro X hP hw hK hc i pins s σ H E I hf st hg
    subst hP hw hK
    obtain ⟨hz, hTI, hTO, h1, h2, h3⟩ := st
    obtain ⟨xs, ys, zs, hqx, hqy, hqz, hend⟩ := hg
    obtain ⟨its, rv, p, _⟩ := I.list hqx
    obtain ⟨its2, rv2, p2, _⟩ := I.list hqy
    obtain ⟨its3, rv3, p3, _⟩ := I.list hqz
    have hh : X.A.handled = none := I.ok.hd hc
    have W := GoesN.zip3 (prog := X.prog) (w := X.w) (A := X.A) (elts := elts) (x1 := kk) (pos := tpos) S (Draws.list (A := X.A.in1) hh i1 a na its.toArray) (Draws.list (A := X.A.in1) hh i2 b nb its2.toArray) (Draws.list (A := X.A.in1) hh i3 c nc its3.toArray)
    have l1 := rv.length
    have l2 := rv2.length
    have l3 := rv3.length
    have en : i = min (min its.toArray.size its2.toArray.size) its3.toArray.size := by simp only [List.size_toArray]; omega
    subst en
    have hf' : ∀ m ∈ [z, TO, i1, i2, i3], FpOk X pins H m := fun m hm => hf m (by
      have e' : m = z ∨ m = TO ∨ m = i1 ∨ m = i2 ∨ m = i3 := by simpa using hm
      rcases e' with q | q | q | q | q <;> simp [q])
    exact W.stops s (fun s1 => Inv X pins σ H s1) E ⟨hz, hTI, hTO, ⟨h1, p.isList⟩, ⟨h2, p2.isList⟩, ⟨h3, p3.isList⟩⟩ fun h' tk hk htk => I.turnedL (t' := tk) (ch := [z, TO, i1, i2, i3]) hk hf'
  self := fun A i s Q E st h => wpAny_pyIter_zip st.1 h
def iZipLLL (K : PySem.W.Frag) (ta : TA) : TI := fun σ H R => ta σ H fun vs H1 => ∃ a b c xs ys zs, vs = [.ref a, .ref b, .ref c] ∧ SqL K H1 a xs ∧ SqL K H1 b ys ∧ SqL K H1 c zs ∧ R (ItzLLL K a b c) H1
theorem pi_zipLLL {X : Cx} {e e2 e3 : Expr} {ta : TA} {p pos tpos : Pos} {elts : List Expr} {kk : Nat} (hg : Gl X "zip") (hm : X.mg "zip" = none) (ha : PA X [e, e2, e3] ta)
    (hs : starEach [e, e2, e3] X.env = (false, eval e X.env) :: starEach [e2, e3] X.env := by rfl) (hpl : (backTo pos (starEach [e2, e3] X.env)).any (·.1) = false := by rfl) :
    PI X (.Tuple elts kk tpos) (.Call (.Name "zip" p) [e, e2, e3] [] pos) (iZipLLL X.K ta) := by
  refine ⟨fun pins s σ H R I h => ?_⟩
  refine Call_ (ld_blt I hg hm PyProof.Rows.boot_zip (PyProof.Rows.callWith_type1 (thn (ha.run pos pins s σ H _ I h) fun us s1 ⟨vs, H1, I1, r1, q1⟩ => ?_) hs hpl))
  obtain ⟨a, b, c, xs, ys, zs, ex, hqx, hqy, hqz, q⟩ := q1
  subst ex
  cases r1 with
  | cons r rr =>
    cases rr with
    | cons r' rr =>
      cases rr with
      | cons r'' rr =>
        cases rr
        cases r
        cases r'
        cases r''
        have fresh6 : ∀ m, m ∈ [s1.heap.objs.size + 5, s1.heap.objs.size + 3, s1.heap.objs.size + 4, s1.heap.objs.size, s1.heap.objs.size + 1, s1.heap.objs.size + 2] → FpOk X pins H1 m := fun m hcm => by
          have e' : m = s1.heap.objs.size + 5 ∨ m = s1.heap.objs.size + 3 ∨ m = s1.heap.objs.size + 4 ∨ m = s1.heap.objs.size ∨ m = s1.heap.objs.size + 1 ∨ m = s1.heap.objs.size + 2 := by simpa using hcm
          have hle : s1.heap.objs.size ≤ m := by
            rcases e' with z | z | z | z | z | z
            · rw [z]; exact Nat.le_add_right _ _
            · rw [z]; exact Nat.le_add_right _ _
            · rw [z]; exact Nat.le_add_right _ _
            · rw [z]; exact Nat.le_refl _
            · rw [z]; exact Nat.le_add_right _ _
            · rw [z]; exact Nat.le_add_right _ _
          exact I1.fpOk hle (I1.hok.fresh hle)
        obtain ⟨its, rv, p1, _⟩ := I1.list hqx
        obtain ⟨its2, rv2, p2, _⟩ := I1.list hqy
        obtain ⟨its3, rv3, p3, _⟩ := I1.list hqz
        obtain ⟨o1, _, ho1, _⟩ := id p1
        obtain ⟨o2, _, ho2, _⟩ := id p2
        obtain ⟨o3, _, ho3, _⟩ := id p3
        have la := Heap.lt_size ho1
        have lb := Heap.lt_size ho2
        have lc := Heap.lt_size ho3
        refine zip_begins3 (begins_list a its.toArray) (begins_list b its2.toArray) (begins_list c its3.toArray) p1.isList p2.isList p3.isList fun h' hz hTI hTO h1 h2 h3 hsz hk => wpAny_pyIter_zip hz ?_
        have I2 : Inv X pins σ H1 { s1 with heap := h' } := I1.kept (t' := s1.toks) hk
        have S : ZipSep3 (s1.heap.objs.size + 5) (s1.heap.objs.size + 3) (s1.heap.objs.size + 4) s1.heap.objs.size (s1.heap.objs.size + 1) (s1.heap.objs.size + 2) [s1.heap.objs.size, a] [s1.heap.objs.size + 1, b] [s1.heap.objs.size + 2, c] :=
          zip_sep3 (fun m hm => by rw [List.mem_singleton.mp hm]; exact la) (fun m hm => by rw [List.mem_singleton.mp hm]; exact lb) (fun m hm => by rw [List.mem_singleton.mp hm]; exact lc)
        exact ⟨s1.heap.objs.size + 5, [s1.heap.objs.size + 5, s1.heap.objs.size + 3, s1.heap.objs.size + 4, s1.heap.objs.size, s1.heap.objs.size + 1, s1.heap.objs.size + 2], _, _, H1, rfl, I2,
          turn_zipLLL S (Nat.ne_of_lt la) (Nat.ne_of_lt (Nat.lt_of_lt_of_le lb (Nat.le_add_right _ _))) (Nat.ne_of_lt (Nat.lt_of_lt_of_le lc (Nat.le_add_right _ _))), ⟨hz, hTI, ⟨_, _, _, hTO⟩, ⟨_, h1, rfl, rfl⟩, ⟨_, h2, rfl, rfl⟩, ⟨_, h3, rfl, rfl⟩⟩, fresh6, q⟩
def YTripLLL (xs ys zs : Nat → Option V) : Nat → Hp → V → Hp → Prop := fun i H v H' => ∃ T x y z, v = .ref T ∧ H T = none ∧ H' = upd H T (.tup [x, y, z]) ∧ xs i = some x ∧ ys i = some y ∧ zs i = some z
theorem walk_zipLLL {K : PySem.W.Frag} {a b c : Addr} {xs ys zs : List V} {n : Nat} (hn : n = min (min xs.length ys.length) zs.length) : Walk (ItzLLL K a b c) n (fun H => SqL K H a xs ∧ SqL K H b ys ∧ SqL K H c zs) (YTripLLL (fun i => xs[i]?) (fun i => ys[i]?) (fun i => zs[i]?)) := by
  subst hn
  refine ⟨fun i _ hi q => ⟨xs, ys, zs, q.1, q.2.1, q.2.2, hi⟩, fun _ q => ⟨xs, ys, zs, q.1, q.2.1, q.2.2, rfl⟩, fun i H v H' _ q y => ?_⟩
  obtain ⟨T, x, y1, z, h1, h2, h3, h4, h5, h6⟩ := y
  exact ⟨T, x, y1, z, h1, h2, h3, h4 xs q.1, h5 ys q.2.1, h6 zs q.2.2⟩
end RU

/-! ### tuple(reversed(list)): a new tuple without dict -/
namespace RU
open PySem PySem.Spec PyProof.Rows L2 HX RZ
def tRevF (K : PySem.W.Frag) (te : TE) : TE := fun σ H Q => te σ H fun v G => ∃ (l : Addr) (ys : List V), v = .ref l ∧ SqL K G l ys ∧ ∀ (p : Addr) (G' : Hp), Same G G' → G p = none → FzT G' p ys.reverse → Q (.ref p) G'
section
variable {X : Cx}
theorem pe_revF {x : Expr} {tx : TE} {q1 q2 q3 q4 : Pos} (calm : X.calm = true) (g1 : Gl X "tuple") (n1 : X.mg "tuple" = none) (g2 : Gl X "reversed") (n2 : X.mg "reversed" = none) (hx : PE X x tx)
    (ea : starEach [x] X.env = (false, eval x X.env) :: starEach [] X.env := by rfl)
    (eb : starEach [.Call (.Name "reversed" q2) [x] [] q4] X.env = (false, eval (.Call (.Name "reversed" q2) [x] [] q4) X.env) :: starEach [] X.env := by rfl) :
    PE X (.Call (.Name "tuple" q1) [.Call (.Name "reversed" q2) [x] [] q4] [] q3) (tRevF X.K tx) := by
  refine ⟨fun pins s σ H Q I hq => ?_⟩
  refine Call_ (ld_blt I g1 n1 boot_tuple (PyProof.Rows.callWith_type1 (args_cons (Call_ (ld_blt I g2 n2 PyProof.Rows.boot_reversed (PyProof.Rows.callWith_type1 (args_cons (thn (hx.run pins s σ H _ I hq) ?_) ea) ea rfl))) eb) eb rfl))
  rintro u c ⟨v, G, J, rv, l, ys, rfl, hl, go⟩
  refine args_nil ?_
  cases rv
  obtain ⟨us, rel, pl, few⟩ := J.list hl
  have few' : us.toArray.size ≤ sizeLine := by rw [List.size_toArray, ← rel.length]; exact few
  refine PySem.call_reversed_list pl.isList (args_nil ?_)
  generalize hr : revObj l ((us.toArray.size : Int) - 1) = ro
  have J1 : Inv X pins σ G { c with heap := c.heap.push ro } := J.kept (t' := c.toks) fun b o e => Heap.get?_push_of_some _ e
  obtain ⟨w0, w1, w2, w3, w4, w5⟩ := J.fpOk (H' := G) (b := c.heap.objs.size) (Nat.le_refl _) (J.hok.fresh (Nat.le_refl _))
  have isl := pl.isList
  have nl : l ≠ c.heap.objs.size := by
    obtain ⟨ol, hol, _⟩ := id isl
    exact Nat.ne_of_lt (Heap.lt_size hol)
  have atr : (c.heap.push ro).get? c.heap.objs.size = some ro := Heap.get?_push_size _ (by rw [← hr]; rfl)
  refine RT.call_tuple_rev (s := { c with heap := c.heap.push ro }) (J.ok.hd calm) ⟨ro, atr, by rw [← hr]; rfl, by rw [← hr]; rfl⟩ (isl.push _) nl few' fun h' tk acc hk hi => ?_
  have J2 : Inv X pins σ G { c with heap := h', toks := tk } := J1.turned (t' := tk) (fun b o hb e => hk b o hb e) w0 w1 w3 w4 w5
  have free : G h'.objs.size = none := J2.hok.fresh (Nat.le_refl _)
  have J3 : Inv X pins σ (upd G h'.objs.size (.frz { cls := .type "tuple", data := .seq acc } (.tup ys.reverse))) { c with heap := h'.push { cls := .type "tuple", data := .seq acc }, toks := tk } :=
    J2.laid (t' := tk) (fun b o e => Heap.get?_push_of_some _ e) (Nat.le_refl _) (show ObjOk X.prog X.w _ _ _ (.frz _ (.tup ys.reverse)) from ⟨Heap.get?_push_size _ rfl, by rw [List.length_reverse]; exact few, acc.toList, RT.vals_rev rel hi, by rw [Array.toArray_toList]; exact IsTup.new _ _⟩)
  exact ⟨.ref h'.objs.size, _, J3, rfl, go _ _ (same_new free) free ⟨_, upd_same, rfl⟩⟩
end
end RU

namespace K30
open PySem PySem.Spec PyProof.Rows L2 RZ HX
def top (i : Nat) : Stmt := PySem.Challenge.pw_latchgrove_k30_trees_by_shapes.main.body.getD i (.Pass ⟨0, 0, 0, 0⟩)
abbrev s_is_whole : Stmt := top 11
abbrev s_is_between : Stmt := top 12
abbrev s_is_row : Stmt := top 13
abbrev s_is_key : Stmt := top 14
abbrev s_is_value : Stmt := top 15
abbrev s_is_room : Stmt := top 16
abbrev s_half_of : Stmt := top 17
abbrev s_is_pair : Stmt := top 18
abbrev s_are_pairs : Stmt := top 19
abbrev s_are_rising : Stmt := top 20
abbrev s_are_rising_pairs : Stmt := top 21
abbrev s_is_page_number : Stmt := top 22
abbrev s_is_leaf : Stmt := top 23
abbrev s_is_node : Stmt := top 24
abbrev s_is_page : Stmt := top 25
abbrev s_parts_of : Stmt := top 26
abbrev s_is_numbered_page : Stmt := top 28
abbrev s_are_numbered_pages : Stmt := top 29
abbrev s_levels_from : Stmt := top 30
abbrev s_sizes_fit : Stmt := top 31
abbrev s_bounds_of : Stmt := top 32
abbrev s_keys_fit : Stmt := top 33
abbrev s_nexts_fit : Stmt := top 34
abbrev s_is_sound : Stmt := top 35
abbrev s_need_room : Stmt := top 37
abbrev s_need_rising_pairs : Stmt := top 38
abbrev s_need_tree : Stmt := top 39
abbrev s_levels_in : Stmt := top 42
abbrev s_pairs_in : Stmt := top 43
abbrev s_pairs_of : Stmt := top 44
abbrev s_height_of_kid : Stmt := top 46
abbrev s_height_of_node : Stmt := top 47
abbrev s_height_of_shape : Stmt := top 48
abbrev s_need_shape : Stmt := top 49
abbrev s_pairs_in_shape : Stmt := top 50
abbrev s_shape_of : Stmt := top 52
abbrev s_shape_beneath : Stmt := top 53
abbrev s_tree_by : Stmt := top 54
abbrev s_set_down : Stmt := top 55
abbrev s_linked : Stmt := top 56
abbrev s_law_pot : Stmt := top 58
abbrev s_law_take : Stmt := top 59
abbrev s_law_shape : Stmt := top 60
abbrev s_law_many : Stmt := top 61
abbrev s_law_pairs : Stmt := top 62
abbrev s_law_same : Stmt := top 63
abbrev s_law_grown : Stmt := top 64
abbrev s_law_due : Stmt := top 65
abbrev s_law_asked : Stmt := top 66
abbrev s_law : Stmt := top 67
theorem sc_is_whole : FnScope ["thing"] ["thing"] (defScope s_is_whole) := ⟨rfl, rfl, rfl, by decide +kernel, rfl, by decide +kernel, by decide +kernel⟩
theorem sc_is_between : FnScope ["thing", "low", "high"] ["thing", "low", "high"] (defScope s_is_between) := ⟨rfl, rfl, rfl, by decide +kernel, rfl, by decide +kernel, by decide +kernel⟩
theorem sc_is_row : FnScope ["thing", "many"] ["thing", "many"] (defScope s_is_row) := ⟨rfl, rfl, rfl, by decide +kernel, rfl, by decide +kernel, by decide +kernel⟩
theorem sc_is_key : FnScope ["thing"] ["thing"] (defScope s_is_key) := ⟨rfl, rfl, rfl, by decide +kernel, rfl, by decide +kernel, by decide +kernel⟩
theorem sc_is_value : FnScope ["thing"] ["thing"] (defScope s_is_value) := ⟨rfl, rfl, rfl, by decide +kernel, rfl, by decide +kernel, by decide +kernel⟩
theorem sc_is_room : FnScope ["thing"] ["thing"] (defScope s_is_room) := ⟨rfl, rfl, rfl, by decide +kernel, rfl, by decide +kernel, by decide +kernel⟩
theorem sc_half_of : FnScope ["room"] ["room"] (defScope s_half_of) := ⟨rfl, rfl, rfl, by decide +kernel, rfl, by decide +kernel, by decide +kernel⟩
theorem sc_is_pair : FnScope ["thing"] ["thing"] (defScope s_is_pair) := ⟨rfl, rfl, rfl, by decide +kernel, rfl, by decide +kernel, by decide +kernel⟩
theorem sc_are_pairs : FnScope ["thing", "pair"] ["thing"] (defScope s_are_pairs) := ⟨rfl, rfl, rfl, by decide +kernel, rfl, by decide +kernel, by decide +kernel⟩
theorem sc_are_rising : FnScope ["things", "one", "other"] ["things"] (defScope s_are_rising) := ⟨rfl, rfl, rfl, by decide +kernel, rfl, by decide +kernel, by decide +kernel⟩
theorem sc_are_rising_pairs : FnScope ["thing", "pair"] ["thing"] (defScope s_are_rising_pairs) := ⟨rfl, rfl, rfl, by decide +kernel, rfl, by decide +kernel, by decide +kernel⟩
theorem sc_is_page_number : FnScope ["thing"] ["thing"] (defScope s_is_page_number) := ⟨rfl, rfl, rfl, by decide +kernel, rfl, by decide +kernel, by decide +kernel⟩
theorem sc_is_leaf : FnScope ["thing"] ["thing"] (defScope s_is_leaf) := ⟨rfl, rfl, rfl, by decide +kernel, rfl, by decide +kernel, by decide +kernel⟩
theorem sc_is_node : FnScope ["thing", "keys", "kids", "key", "kid"] ["thing"] (defScope s_is_node) := ⟨rfl, rfl, rfl, by decide +kernel, rfl, by decide +kernel, by decide +kernel⟩
theorem sc_is_page : FnScope ["thing"] ["thing"] (defScope s_is_page) := ⟨rfl, rfl, rfl, by decide +kernel, rfl, by decide +kernel, by decide +kernel⟩
theorem sc_parts_of : FnScope ["page"] ["page"] (defScope s_parts_of) := ⟨rfl, rfl, rfl, by decide +kernel, rfl, by decide +kernel, by decide +kernel⟩
theorem sc_is_numbered_page : FnScope ["thing"] ["thing"] (defScope s_is_numbered_page) := ⟨rfl, rfl, rfl, by decide +kernel, rfl, by decide +kernel, by decide +kernel⟩
theorem sc_are_numbered_pages : FnScope ["thing", "one", "other", "part"] ["thing"] (defScope s_are_numbered_pages) := ⟨rfl, rfl, rfl, by decide +kernel, rfl, by decide +kernel, by decide +kernel⟩
theorem sc_levels_from : FnScope ["root", "pages", "seen", "levels", "level", "number", "nodes", "node", "kid"] ["root", "pages"] (defScope s_levels_from) := ⟨rfl, rfl, rfl, by decide +kernel, rfl, by decide +kernel, by decide +kernel⟩
theorem sc_sizes_fit : FnScope ["room", "root", "pages", "number", "page", "least"] ["room", "root", "pages"] (defScope s_sizes_fit) := ⟨rfl, rfl, rfl, by decide +kernel, rfl, by decide +kernel, by decide +kernel⟩
theorem sc_bounds_of : FnScope ["levels", "pages", "bounds", "level", "number", "low", "high", "_", "keys", "kids", "kid", "least", "above"] ["levels", "pages"] (defScope s_bounds_of) := ⟨rfl, rfl, rfl, by decide +kernel, rfl, by decide +kernel, by decide +kernel⟩
theorem sc_keys_fit : FnScope ["levels", "pages", "bounds", "number", "low", "high", "pair"] ["levels", "pages"] (defScope s_keys_fit) := ⟨rfl, rfl, rfl, by decide +kernel, rfl, by decide +kernel, by decide +kernel⟩
theorem sc_nexts_fit : FnScope ["leaves", "pages", "nexts", "number"] ["leaves", "pages"] (defScope s_nexts_fit) := ⟨rfl, rfl, rfl, by decide +kernel, rfl, by decide +kernel, by decide +kernel⟩
theorem sc_is_sound : FnScope ["thing", "room", "root", "numbered", "pages", "levels"] ["thing"] (defScope s_is_sound) := ⟨rfl, rfl, rfl, by decide +kernel, rfl, by decide +kernel, by decide +kernel⟩
theorem sc_need_room : FnScope ["thing"] ["thing"] (defScope s_need_room) := ⟨rfl, rfl, rfl, by decide +kernel, rfl, by decide +kernel, by decide +kernel⟩
theorem sc_need_rising_pairs : FnScope ["thing"] ["thing"] (defScope s_need_rising_pairs) := ⟨rfl, rfl, rfl, by decide +kernel, rfl, by decide +kernel, by decide +kernel⟩
theorem sc_need_tree : FnScope ["thing"] ["thing"] (defScope s_need_tree) := ⟨rfl, rfl, rfl, by decide +kernel, rfl, by decide +kernel, by decide +kernel⟩
theorem sc_levels_in : FnScope ["tree"] ["tree"] (defScope s_levels_in) := ⟨rfl, rfl, rfl, by decide +kernel, rfl, by decide +kernel, by decide +kernel⟩
theorem sc_pairs_in : FnScope ["tree", "pages", "number", "pair"] ["tree"] (defScope s_pairs_in) := ⟨rfl, rfl, rfl, by decide +kernel, rfl, by decide +kernel, by decide +kernel⟩
theorem sc_pairs_of : FnScope ["tree"] ["tree"] (defScope s_pairs_of) := ⟨rfl, rfl, rfl, by decide +kernel, rfl, by decide +kernel, by decide +kernel⟩
theorem sc_height_of_kid : FnScope ["shape", "room", "half"] ["shape", "room"] (defScope s_height_of_kid) := ⟨rfl, rfl, rfl, by decide +kernel, rfl, by decide +kernel, by decide +kernel⟩
theorem sc_height_of_node : FnScope ["shape", "least", "room", "height", "ahead", "kid"] ["shape", "least", "room"] (defScope s_height_of_node) := ⟨rfl, rfl, rfl, by decide +kernel, rfl, by decide +kernel, by decide +kernel⟩
theorem sc_height_of_shape : FnScope ["shape", "room"] ["shape", "room"] (defScope s_height_of_shape) := ⟨rfl, rfl, rfl, by decide +kernel, rfl, by decide +kernel, by decide +kernel⟩
theorem sc_need_shape : FnScope ["thing", "room"] ["thing", "room"] (defScope s_need_shape) := ⟨rfl, rfl, rfl, by decide +kernel, rfl, by decide +kernel, by decide +kernel⟩
theorem sc_pairs_in_shape : FnScope ["shape", "many", "of_kid", "ahead", "kid"] ["shape"] (defScope s_pairs_in_shape) := ⟨rfl, rfl, rfl, by decide +kernel, rfl, by decide +kernel, by decide +kernel⟩
theorem sc_shape_of : FnScope ["tree"] ["tree"] (defScope s_shape_of) := ⟨rfl, rfl, rfl, by decide +kernel, rfl, by decide +kernel, by decide +kernel⟩
theorem sc_shape_beneath : FnScope ["pages", "number", "kind", "_", "kids", "kid"] ["pages", "number"] (defScope s_shape_beneath) := ⟨rfl, rfl, rfl, by decide +kernel, rfl, by decide +kernel, by decide +kernel⟩
theorem sc_tree_by : FnScope ["shape", "pairs", "room", "pages"] ["shape", "pairs", "room"] (defScope s_tree_by) := ⟨rfl, rfl, rfl, by decide +kernel, rfl, by decide +kernel, by decide +kernel⟩
theorem sc_set_down : FnScope ["shape", "pairs", "pages", "at", "firsts", "kids", "start", "kid", "end"] ["shape", "pairs", "pages"] (defScope s_set_down) := ⟨rfl, rfl, rfl, by decide +kernel, rfl, by decide +kernel, by decide +kernel⟩
theorem sc_linked : FnScope ["pages", "numbered", "right", "number", "page"] ["pages"] (defScope s_linked) := ⟨rfl, rfl, rfl, by decide +kernel, rfl, by decide +kernel, by decide +kernel⟩
theorem sc_law_pot : FnScope ["script", "k", "cell"] ["script", "k"] (defScope s_law_pot) := ⟨rfl, rfl, rfl, by decide +kernel, rfl, by decide +kernel, by decide +kernel⟩
theorem sc_law_take : FnScope ["pot", "many", "found", "one", "other"] ["pot", "many"] (defScope s_law_take) := ⟨rfl, rfl, rfl, by decide +kernel, rfl, by decide +kernel, by decide +kernel⟩
theorem sc_law_shape : FnScope ["pot", "space", "levels", "top", "wide", "least", "many", "k"] ["pot", "space", "levels", "top", "wide"] (defScope s_law_shape) := ⟨rfl, rfl, rfl, by decide +kernel, rfl, by decide +kernel, by decide +kernel⟩
theorem sc_law_many : FnScope ["shape", "kid"] ["shape"] (defScope s_law_many) := ⟨rfl, rfl, rfl, by decide +kernel, rfl, by decide +kernel, by decide +kernel⟩
theorem sc_law_pairs : FnScope ["pot", "many", "found", "key", "k"] ["pot", "many"] (defScope s_law_pairs) := ⟨rfl, rfl, rfl, by decide +kernel, rfl, by decide +kernel, by decide +kernel⟩
theorem sc_law_same : FnScope ["found", "due", "one", "other"] ["found", "due"] (defScope s_law_same) := ⟨rfl, rfl, rfl, by decide +kernel, rfl, by decide +kernel, by decide +kernel⟩
theorem sc_law_grown : FnScope ["shape", "rest", "pages", "number", "first", "kids", "keys", "pair", "kid"] ["shape", "rest", "pages"] (defScope s_law_grown) := ⟨rfl, rfl, rfl, by decide +kernel, rfl, by decide +kernel, by decide +kernel⟩
theorem sc_law_due : FnScope ["shape", "pairs", "space", "pages", "rest", "number", "following"] ["shape", "pairs", "space"] (defScope s_law_due) := ⟨rfl, rfl, rfl, by decide +kernel, rfl, by decide +kernel, by decide +kernel⟩
theorem sc_law_asked : FnScope ["shape", "pairs", "space", "left_out"] ["shape", "pairs", "space", "left_out"] (defScope s_law_asked) := ⟨rfl, rfl, rfl, by decide +kernel, rfl, by decide +kernel, by decide +kernel⟩
theorem sc_law : FnScope ["script", "k", "pot", "space", "levels", "shape", "pairs", "told", "others", "key", "value"] ["script"] (defScope s_law) := ⟨rfl, rfl, rfl, by decide +kernel, rfl, by decide +kernel, by decide +kernel⟩
/-- what the top has written -/
structure TX (K : PySem.W.Frag) (mg : Str → Option Value) where
  fd_is_whole : FuncData
  F_is_whole : FunD K "is_whole" "is_whole" (defArgs s_is_whole) (defBody s_is_whole) (defScope s_is_whole) [] [] (He.ga K "is_whole") fd_is_whole
  g_is_whole : mg "is_whole" = some (.ref (He.ga K "is_whole"))
  fd_is_between : FuncData
  F_is_between : FunD K "is_between" "is_between" (defArgs s_is_between) (defBody s_is_between) (defScope s_is_between) [] [] (He.ga K "is_between") fd_is_between
  g_is_between : mg "is_between" = some (.ref (He.ga K "is_between"))
  fd_is_row : FuncData
  F_is_row : FunD K "is_row" "is_row" (defArgs s_is_row) (defBody s_is_row) (defScope s_is_row) [] [] (He.ga K "is_row") fd_is_row
  g_is_row : mg "is_row" = some (.ref (He.ga K "is_row"))
  fd_is_key : FuncData
  F_is_key : FunD K "is_key" "is_key" (defArgs s_is_key) (defBody s_is_key) (defScope s_is_key) [] [] (He.ga K "is_key") fd_is_key
  g_is_key : mg "is_key" = some (.ref (He.ga K "is_key"))
  fd_is_value : FuncData
  F_is_value : FunD K "is_value" "is_value" (defArgs s_is_value) (defBody s_is_value) (defScope s_is_value) [] [] (He.ga K "is_value") fd_is_value
  g_is_value : mg "is_value" = some (.ref (He.ga K "is_value"))
  fd_is_room : FuncData
  F_is_room : FunD K "is_room" "is_room" (defArgs s_is_room) (defBody s_is_room) (defScope s_is_room) [] [] (He.ga K "is_room") fd_is_room
  g_is_room : mg "is_room" = some (.ref (He.ga K "is_room"))
  fd_half_of : FuncData
  F_half_of : FunD K "half_of" "half_of" (defArgs s_half_of) (defBody s_half_of) (defScope s_half_of) [] [] (He.ga K "half_of") fd_half_of
  g_half_of : mg "half_of" = some (.ref (He.ga K "half_of"))
  fd_is_pair : FuncData
  F_is_pair : FunD K "is_pair" "is_pair" (defArgs s_is_pair) (defBody s_is_pair) (defScope s_is_pair) [] [] (He.ga K "is_pair") fd_is_pair
  g_is_pair : mg "is_pair" = some (.ref (He.ga K "is_pair"))
  fd_are_pairs : FuncData
  F_are_pairs : FunD K "are_pairs" "are_pairs" (defArgs s_are_pairs) (defBody s_are_pairs) (defScope s_are_pairs) [] [] (He.ga K "are_pairs") fd_are_pairs
  g_are_pairs : mg "are_pairs" = some (.ref (He.ga K "are_pairs"))
  fd_are_rising : FuncData
  F_are_rising : FunD K "are_rising" "are_rising" (defArgs s_are_rising) (defBody s_are_rising) (defScope s_are_rising) [] [] (He.ga K "are_rising") fd_are_rising
  g_are_rising : mg "are_rising" = some (.ref (He.ga K "are_rising"))
  fd_are_rising_pairs : FuncData
  F_are_rising_pairs : FunD K "are_rising_pairs" "are_rising_pairs" (defArgs s_are_rising_pairs) (defBody s_are_rising_pairs) (defScope s_are_rising_pairs) [] [] (He.ga K "are_rising_pairs") fd_are_rising_pairs
  g_are_rising_pairs : mg "are_rising_pairs" = some (.ref (He.ga K "are_rising_pairs"))
  fd_is_page_number : FuncData
  F_is_page_number : FunD K "is_page_number" "is_page_number" (defArgs s_is_page_number) (defBody s_is_page_number) (defScope s_is_page_number) [] [] (He.ga K "is_page_number") fd_is_page_number
  g_is_page_number : mg "is_page_number" = some (.ref (He.ga K "is_page_number"))
  fd_is_leaf : FuncData
  F_is_leaf : FunD K "is_leaf" "is_leaf" (defArgs s_is_leaf) (defBody s_is_leaf) (defScope s_is_leaf) [] [] (He.ga K "is_leaf") fd_is_leaf
  g_is_leaf : mg "is_leaf" = some (.ref (He.ga K "is_leaf"))
  fd_is_node : FuncData
  F_is_node : FunD K "is_node" "is_node" (defArgs s_is_node) (defBody s_is_node) (defScope s_is_node) [] [] (He.ga K "is_node") fd_is_node
  g_is_node : mg "is_node" = some (.ref (He.ga K "is_node"))
  fd_is_page : FuncData
  F_is_page : FunD K "is_page" "is_page" (defArgs s_is_page) (defBody s_is_page) (defScope s_is_page) [] [] (He.ga K "is_page") fd_is_page
  g_is_page : mg "is_page" = some (.ref (He.ga K "is_page"))
  fd_parts_of : FuncData
  F_parts_of : FunD K "parts_of" "parts_of" (defArgs s_parts_of) (defBody s_parts_of) (defScope s_parts_of) [] [] (He.ga K "parts_of") fd_parts_of
  g_parts_of : mg "parts_of" = some (.ref (He.ga K "parts_of"))
  fd_is_numbered_page : FuncData
  F_is_numbered_page : FunD K "is_numbered_page" "is_numbered_page" (defArgs s_is_numbered_page) (defBody s_is_numbered_page) (defScope s_is_numbered_page) [] [] (He.ga K "is_numbered_page") fd_is_numbered_page
  g_is_numbered_page : mg "is_numbered_page" = some (.ref (He.ga K "is_numbered_page"))
  fd_are_numbered_pages : FuncData
  F_are_numbered_pages : FunD K "are_numbered_pages" "are_numbered_pages" (defArgs s_are_numbered_pages) (defBody s_are_numbered_pages) (defScope s_are_numbered_pages) [] [] (He.ga K "are_numbered_pages") fd_are_numbered_pages
  g_are_numbered_pages : mg "are_numbered_pages" = some (.ref (He.ga K "are_numbered_pages"))
  fd_levels_from : FuncData
  F_levels_from : FunD K "levels_from" "levels_from" (defArgs s_levels_from) (defBody s_levels_from) (defScope s_levels_from) [] [] (He.ga K "levels_from") fd_levels_from
  g_levels_from : mg "levels_from" = some (.ref (He.ga K "levels_from"))
  fd_sizes_fit : FuncData
  F_sizes_fit : FunD K "sizes_fit" "sizes_fit" (defArgs s_sizes_fit) (defBody s_sizes_fit) (defScope s_sizes_fit) [] [] (He.ga K "sizes_fit") fd_sizes_fit
  g_sizes_fit : mg "sizes_fit" = some (.ref (He.ga K "sizes_fit"))
  fd_bounds_of : FuncData
  F_bounds_of : FunD K "bounds_of" "bounds_of" (defArgs s_bounds_of) (defBody s_bounds_of) (defScope s_bounds_of) [] [] (He.ga K "bounds_of") fd_bounds_of
  g_bounds_of : mg "bounds_of" = some (.ref (He.ga K "bounds_of"))
  fd_keys_fit : FuncData
  F_keys_fit : FunD K "keys_fit" "keys_fit" (defArgs s_keys_fit) (defBody s_keys_fit) (defScope s_keys_fit) [] [] (He.ga K "keys_fit") fd_keys_fit
  g_keys_fit : mg "keys_fit" = some (.ref (He.ga K "keys_fit"))
  fd_nexts_fit : FuncData
  F_nexts_fit : FunD K "nexts_fit" "nexts_fit" (defArgs s_nexts_fit) (defBody s_nexts_fit) (defScope s_nexts_fit) [] [] (He.ga K "nexts_fit") fd_nexts_fit
  g_nexts_fit : mg "nexts_fit" = some (.ref (He.ga K "nexts_fit"))
  fd_is_sound : FuncData
  F_is_sound : FunD K "is_sound" "is_sound" (defArgs s_is_sound) (defBody s_is_sound) (defScope s_is_sound) [] [] (He.ga K "is_sound") fd_is_sound
  g_is_sound : mg "is_sound" = some (.ref (He.ga K "is_sound"))
  fd_need_room : FuncData
  F_need_room : FunD K "need_room" "need_room" (defArgs s_need_room) (defBody s_need_room) (defScope s_need_room) [] [] (He.ga K "need_room") fd_need_room
  g_need_room : mg "need_room" = some (.ref (He.ga K "need_room"))
  fd_need_rising_pairs : FuncData
  F_need_rising_pairs : FunD K "need_rising_pairs" "need_rising_pairs" (defArgs s_need_rising_pairs) (defBody s_need_rising_pairs) (defScope s_need_rising_pairs) [] [] (He.ga K "need_rising_pairs") fd_need_rising_pairs
  g_need_rising_pairs : mg "need_rising_pairs" = some (.ref (He.ga K "need_rising_pairs"))
  fd_need_tree : FuncData
  F_need_tree : FunD K "need_tree" "need_tree" (defArgs s_need_tree) (defBody s_need_tree) (defScope s_need_tree) [] [] (He.ga K "need_tree") fd_need_tree
  g_need_tree : mg "need_tree" = some (.ref (He.ga K "need_tree"))
  fd_levels_in : FuncData
  F_levels_in : FunD K "levels_in" "levels_in" (defArgs s_levels_in) (defBody s_levels_in) (defScope s_levels_in) [] [] (He.ga K "levels_in") fd_levels_in
  g_levels_in : mg "levels_in" = some (.ref (He.ga K "levels_in"))
  fd_pairs_in : FuncData
  F_pairs_in : FunD K "pairs_in" "pairs_in" (defArgs s_pairs_in) (defBody s_pairs_in) (defScope s_pairs_in) [] [] (He.ga K "pairs_in") fd_pairs_in
  g_pairs_in : mg "pairs_in" = some (.ref (He.ga K "pairs_in"))
  fd_pairs_of : FuncData
  F_pairs_of : FunD K "pairs_of" "pairs_of" (defArgs s_pairs_of) (defBody s_pairs_of) (defScope s_pairs_of) [] [] (He.ga K "pairs_of") fd_pairs_of
  g_pairs_of : mg "pairs_of" = some (.ref (He.ga K "pairs_of"))
  fd_height_of_kid : FuncData
  F_height_of_kid : FunD K "height_of_kid" "height_of_kid" (defArgs s_height_of_kid) (defBody s_height_of_kid) (defScope s_height_of_kid) [] [] (He.ga K "height_of_kid") fd_height_of_kid
  g_height_of_kid : mg "height_of_kid" = some (.ref (He.ga K "height_of_kid"))
  fd_height_of_node : FuncData
  F_height_of_node : FunD K "height_of_node" "height_of_node" (defArgs s_height_of_node) (defBody s_height_of_node) (defScope s_height_of_node) [] [] (He.ga K "height_of_node") fd_height_of_node
  g_height_of_node : mg "height_of_node" = some (.ref (He.ga K "height_of_node"))
  fd_height_of_shape : FuncData
  F_height_of_shape : FunD K "height_of_shape" "height_of_shape" (defArgs s_height_of_shape) (defBody s_height_of_shape) (defScope s_height_of_shape) [] [] (He.ga K "height_of_shape") fd_height_of_shape
  g_height_of_shape : mg "height_of_shape" = some (.ref (He.ga K "height_of_shape"))
  fd_need_shape : FuncData
  F_need_shape : FunD K "need_shape" "need_shape" (defArgs s_need_shape) (defBody s_need_shape) (defScope s_need_shape) [] [] (He.ga K "need_shape") fd_need_shape
  g_need_shape : mg "need_shape" = some (.ref (He.ga K "need_shape"))
  fd_pairs_in_shape : FuncData
  F_pairs_in_shape : FunD K "pairs_in_shape" "pairs_in_shape" (defArgs s_pairs_in_shape) (defBody s_pairs_in_shape) (defScope s_pairs_in_shape) [] [] (He.ga K "pairs_in_shape") fd_pairs_in_shape
  g_pairs_in_shape : mg "pairs_in_shape" = some (.ref (He.ga K "pairs_in_shape"))
  fd_shape_of : FuncData
  F_shape_of : FunD K "shape_of" "shape_of" (defArgs s_shape_of) (defBody s_shape_of) (defScope s_shape_of) [] [] (He.ga K "shape_of") fd_shape_of
  g_shape_of : mg "shape_of" = some (.ref (He.ga K "shape_of"))
  fd_shape_beneath : FuncData
  F_shape_beneath : FunD K "shape_beneath" "shape_beneath" (defArgs s_shape_beneath) (defBody s_shape_beneath) (defScope s_shape_beneath) [] [] (He.ga K "shape_beneath") fd_shape_beneath
  g_shape_beneath : mg "shape_beneath" = some (.ref (He.ga K "shape_beneath"))
  fd_tree_by : FuncData
  F_tree_by : FunD K "tree_by" "tree_by" (defArgs s_tree_by) (defBody s_tree_by) (defScope s_tree_by) [] [("room", (V.int 4))] (He.ga K "tree_by") fd_tree_by
  g_tree_by : mg "tree_by" = some (.ref (He.ga K "tree_by"))
  fd_set_down : FuncData
  F_set_down : FunD K "set_down" "set_down" (defArgs s_set_down) (defBody s_set_down) (defScope s_set_down) [] [] (He.ga K "set_down") fd_set_down
  g_set_down : mg "set_down" = some (.ref (He.ga K "set_down"))
  fd_linked : FuncData
  F_linked : FunD K "linked" "linked" (defArgs s_linked) (defBody s_linked) (defScope s_linked) [] [] (He.ga K "linked") fd_linked
  g_linked : mg "linked" = some (.ref (He.ga K "linked"))
  fd_law_pot : FuncData
  F_law_pot : FunD K "_law_pot" "_law_pot" (defArgs s_law_pot) (defBody s_law_pot) (defScope s_law_pot) [] [] (He.ga K "_law_pot") fd_law_pot
  g_law_pot : mg "_law_pot" = some (.ref (He.ga K "_law_pot"))
  fd_law_take : FuncData
  F_law_take : FunD K "_law_take" "_law_take" (defArgs s_law_take) (defBody s_law_take) (defScope s_law_take) [] [] (He.ga K "_law_take") fd_law_take
  g_law_take : mg "_law_take" = some (.ref (He.ga K "_law_take"))
  fd_law_shape : FuncData
  F_law_shape : FunD K "_law_shape" "_law_shape" (defArgs s_law_shape) (defBody s_law_shape) (defScope s_law_shape) [] [] (He.ga K "_law_shape") fd_law_shape
  g_law_shape : mg "_law_shape" = some (.ref (He.ga K "_law_shape"))
  fd_law_many : FuncData
  F_law_many : FunD K "_law_many" "_law_many" (defArgs s_law_many) (defBody s_law_many) (defScope s_law_many) [] [] (He.ga K "_law_many") fd_law_many
  g_law_many : mg "_law_many" = some (.ref (He.ga K "_law_many"))
  fd_law_pairs : FuncData
  F_law_pairs : FunD K "_law_pairs" "_law_pairs" (defArgs s_law_pairs) (defBody s_law_pairs) (defScope s_law_pairs) [] [] (He.ga K "_law_pairs") fd_law_pairs
  g_law_pairs : mg "_law_pairs" = some (.ref (He.ga K "_law_pairs"))
  fd_law_same : FuncData
  F_law_same : FunD K "_law_same" "_law_same" (defArgs s_law_same) (defBody s_law_same) (defScope s_law_same) [] [] (He.ga K "_law_same") fd_law_same
  g_law_same : mg "_law_same" = some (.ref (He.ga K "_law_same"))
  fd_law_grown : FuncData
  F_law_grown : FunD K "_law_grown" "_law_grown" (defArgs s_law_grown) (defBody s_law_grown) (defScope s_law_grown) [] [] (He.ga K "_law_grown") fd_law_grown
  g_law_grown : mg "_law_grown" = some (.ref (He.ga K "_law_grown"))
  fd_law_due : FuncData
  F_law_due : FunD K "_law_due" "_law_due" (defArgs s_law_due) (defBody s_law_due) (defScope s_law_due) [] [] (He.ga K "_law_due") fd_law_due
  g_law_due : mg "_law_due" = some (.ref (He.ga K "_law_due"))
  fd_law_asked : FuncData
  F_law_asked : FunD K "_law_asked" "_law_asked" (defArgs s_law_asked) (defBody s_law_asked) (defScope s_law_asked) [] [] (He.ga K "_law_asked") fd_law_asked
  g_law_asked : mg "_law_asked" = some (.ref (He.ga K "_law_asked"))
  fd_law : FuncData
  F_law : FunD K "law" "law" (defArgs s_law) (defBody s_law) (defScope s_law) [] [] (He.ga K "law") fd_law
  g_law : mg "law" = some (.ref (He.ga K "law"))
  g_GroveError : mg "GroveError" = some (.ref (He.ga K "GroveError"))
  g_NoRoom : mg "NoRoom" = some (.ref (He.ga K "NoRoom"))
  g_NoTree : mg "NoTree" = some (.ref (He.ga K "NoTree"))
  g_NoPairs : mg "NoPairs" = some (.ref (He.ga K "NoPairs"))
  g_NoShape : mg "NoShape" = some (.ref (He.ga K "NoShape"))
  g_GREATEST : ∃ t, mg "GREATEST" = some (.int 1000000000 t)
  g_LAST_PAGE : ∃ t, mg "LAST_PAGE" = some (.int 1000000 t)
  g_LEAST_ROOM : ∃ t, mg "LEAST_ROOM" = some (.int 3 t)
  g_GREATEST_ROOM : ∃ t, mg "GREATEST_ROOM" = some (.int 8 t)
  g_ROOM : ∃ t, mg "ROOM" = some (.int 4 t)
  n_abs : mg "abs" = none
  n_all : mg "all" = none
  n_bool : mg "bool" = none
  n_dict : mg "dict" = none
  n_int : mg "int" = none
  n_isinstance : mg "isinstance" = none
  n_len : mg "len" = none
  n_list : mg "list" = none
  n_max : mg "max" = none
  n_min : mg "min" = none
  n_range : mg "range" = none
  n_reversed : mg "reversed" = none
  n_sorted : mg "sorted" = none
  n_str : mg "str" = none
  n_sum : mg "sum" = none
  n_tuple : mg "tuple" = none
  n_zip : mg "zip" = none
theorem b_is_whole {K : PySem.W.Frag} {mg : Str → Option Value} (T : TX K mg) : Binds K T.fd_is_whole ["thing"] [] := T.F_is_whole.bindsN fun _ _ _ _ _ _ us hl => match us, hl with | [_], _ => rfl
theorem b_is_between {K : PySem.W.Frag} {mg : Str → Option Value} (T : TX K mg) : Binds K T.fd_is_between ["thing", "low", "high"] [] := T.F_is_between.bindsN fun _ _ _ _ _ _ us hl => match us, hl with | [_, _, _], _ => rfl
theorem b_is_row {K : PySem.W.Frag} {mg : Str → Option Value} (T : TX K mg) : Binds K T.fd_is_row ["thing", "many"] [] := T.F_is_row.bindsN fun _ _ _ _ _ _ us hl => match us, hl with | [_, _], _ => rfl
theorem b_is_key {K : PySem.W.Frag} {mg : Str → Option Value} (T : TX K mg) : Binds K T.fd_is_key ["thing"] [] := T.F_is_key.bindsN fun _ _ _ _ _ _ us hl => match us, hl with | [_], _ => rfl
theorem b_is_value {K : PySem.W.Frag} {mg : Str → Option Value} (T : TX K mg) : Binds K T.fd_is_value ["thing"] [] := T.F_is_value.bindsN fun _ _ _ _ _ _ us hl => match us, hl with | [_], _ => rfl
theorem b_is_room {K : PySem.W.Frag} {mg : Str → Option Value} (T : TX K mg) : Binds K T.fd_is_room ["thing"] [] := T.F_is_room.bindsN fun _ _ _ _ _ _ us hl => match us, hl with | [_], _ => rfl
theorem b_half_of {K : PySem.W.Frag} {mg : Str → Option Value} (T : TX K mg) : Binds K T.fd_half_of ["room"] [] := T.F_half_of.bindsN fun _ _ _ _ _ _ us hl => match us, hl with | [_], _ => rfl
theorem b_is_pair {K : PySem.W.Frag} {mg : Str → Option Value} (T : TX K mg) : Binds K T.fd_is_pair ["thing"] [] := T.F_is_pair.bindsN fun _ _ _ _ _ _ us hl => match us, hl with | [_], _ => rfl
theorem b_are_pairs {K : PySem.W.Frag} {mg : Str → Option Value} (T : TX K mg) : Binds K T.fd_are_pairs ["thing"] [] := T.F_are_pairs.bindsN fun _ _ _ _ _ _ us hl => match us, hl with | [_], _ => rfl
theorem b_are_rising {K : PySem.W.Frag} {mg : Str → Option Value} (T : TX K mg) : Binds K T.fd_are_rising ["things"] [] := T.F_are_rising.bindsN fun _ _ _ _ _ _ us hl => match us, hl with | [_], _ => rfl
theorem b_are_rising_pairs {K : PySem.W.Frag} {mg : Str → Option Value} (T : TX K mg) : Binds K T.fd_are_rising_pairs ["thing"] [] := T.F_are_rising_pairs.bindsN fun _ _ _ _ _ _ us hl => match us, hl with | [_], _ => rfl
theorem b_is_page_number {K : PySem.W.Frag} {mg : Str → Option Value} (T : TX K mg) : Binds K T.fd_is_page_number ["thing"] [] := T.F_is_page_number.bindsN fun _ _ _ _ _ _ us hl => match us, hl with | [_], _ => rfl
theorem b_is_leaf {K : PySem.W.Frag} {mg : Str → Option Value} (T : TX K mg) : Binds K T.fd_is_leaf ["thing"] [] := T.F_is_leaf.bindsN fun _ _ _ _ _ _ us hl => match us, hl with | [_], _ => rfl
theorem b_is_node {K : PySem.W.Frag} {mg : Str → Option Value} (T : TX K mg) : Binds K T.fd_is_node ["thing"] [] := T.F_is_node.bindsN fun _ _ _ _ _ _ us hl => match us, hl with | [_], _ => rfl
theorem b_is_page {K : PySem.W.Frag} {mg : Str → Option Value} (T : TX K mg) : Binds K T.fd_is_page ["thing"] [] := T.F_is_page.bindsN fun _ _ _ _ _ _ us hl => match us, hl with | [_], _ => rfl
theorem b_parts_of {K : PySem.W.Frag} {mg : Str → Option Value} (T : TX K mg) : Binds K T.fd_parts_of ["page"] [] := T.F_parts_of.bindsN fun _ _ _ _ _ _ us hl => match us, hl with | [_], _ => rfl
theorem b_is_numbered_page {K : PySem.W.Frag} {mg : Str → Option Value} (T : TX K mg) : Binds K T.fd_is_numbered_page ["thing"] [] := T.F_is_numbered_page.bindsN fun _ _ _ _ _ _ us hl => match us, hl with | [_], _ => rfl
theorem b_are_numbered_pages {K : PySem.W.Frag} {mg : Str → Option Value} (T : TX K mg) : Binds K T.fd_are_numbered_pages ["thing"] [] := T.F_are_numbered_pages.bindsN fun _ _ _ _ _ _ us hl => match us, hl with | [_], _ => rfl
theorem b_levels_from {K : PySem.W.Frag} {mg : Str → Option Value} (T : TX K mg) : Binds K T.fd_levels_from ["root", "pages"] [] := T.F_levels_from.bindsN fun _ _ _ _ _ _ us hl => match us, hl with | [_, _], _ => rfl
theorem b_sizes_fit {K : PySem.W.Frag} {mg : Str → Option Value} (T : TX K mg) : Binds K T.fd_sizes_fit ["room", "root", "pages"] [] := T.F_sizes_fit.bindsN fun _ _ _ _ _ _ us hl => match us, hl with | [_, _, _], _ => rfl
theorem b_bounds_of {K : PySem.W.Frag} {mg : Str → Option Value} (T : TX K mg) : Binds K T.fd_bounds_of ["levels", "pages"] [] := T.F_bounds_of.bindsN fun _ _ _ _ _ _ us hl => match us, hl with | [_, _], _ => rfl
theorem b_keys_fit {K : PySem.W.Frag} {mg : Str → Option Value} (T : TX K mg) : Binds K T.fd_keys_fit ["levels", "pages"] [] := T.F_keys_fit.bindsN fun _ _ _ _ _ _ us hl => match us, hl with | [_, _], _ => rfl
theorem b_nexts_fit {K : PySem.W.Frag} {mg : Str → Option Value} (T : TX K mg) : Binds K T.fd_nexts_fit ["leaves", "pages"] [] := T.F_nexts_fit.bindsN fun _ _ _ _ _ _ us hl => match us, hl with | [_, _], _ => rfl
theorem b_is_sound {K : PySem.W.Frag} {mg : Str → Option Value} (T : TX K mg) : Binds K T.fd_is_sound ["thing"] [] := T.F_is_sound.bindsN fun _ _ _ _ _ _ us hl => match us, hl with | [_], _ => rfl
theorem b_need_room {K : PySem.W.Frag} {mg : Str → Option Value} (T : TX K mg) : Binds K T.fd_need_room ["thing"] [] := T.F_need_room.bindsN fun _ _ _ _ _ _ us hl => match us, hl with | [_], _ => rfl
theorem b_need_rising_pairs {K : PySem.W.Frag} {mg : Str → Option Value} (T : TX K mg) : Binds K T.fd_need_rising_pairs ["thing"] [] := T.F_need_rising_pairs.bindsN fun _ _ _ _ _ _ us hl => match us, hl with | [_], _ => rfl
theorem b_need_tree {K : PySem.W.Frag} {mg : Str → Option Value} (T : TX K mg) : Binds K T.fd_need_tree ["thing"] [] := T.F_need_tree.bindsN fun _ _ _ _ _ _ us hl => match us, hl with | [_], _ => rfl
theorem b_levels_in {K : PySem.W.Frag} {mg : Str → Option Value} (T : TX K mg) : Binds K T.fd_levels_in ["tree"] [] := T.F_levels_in.bindsN fun _ _ _ _ _ _ us hl => match us, hl with | [_], _ => rfl
theorem b_pairs_in {K : PySem.W.Frag} {mg : Str → Option Value} (T : TX K mg) : Binds K T.fd_pairs_in ["tree"] [] := T.F_pairs_in.bindsN fun _ _ _ _ _ _ us hl => match us, hl with | [_], _ => rfl
theorem b_pairs_of {K : PySem.W.Frag} {mg : Str → Option Value} (T : TX K mg) : Binds K T.fd_pairs_of ["tree"] [] := T.F_pairs_of.bindsN fun _ _ _ _ _ _ us hl => match us, hl with | [_], _ => rfl
theorem b_height_of_kid {K : PySem.W.Frag} {mg : Str → Option Value} (T : TX K mg) : Binds K T.fd_height_of_kid ["shape", "room"] [] := T.F_height_of_kid.bindsN fun _ _ _ _ _ _ us hl => match us, hl with | [_, _], _ => rfl
theorem b_height_of_node {K : PySem.W.Frag} {mg : Str → Option Value} (T : TX K mg) : Binds K T.fd_height_of_node ["shape", "least", "room"] [] := T.F_height_of_node.bindsN fun _ _ _ _ _ _ us hl => match us, hl with | [_, _, _], _ => rfl
theorem b_height_of_shape {K : PySem.W.Frag} {mg : Str → Option Value} (T : TX K mg) : Binds K T.fd_height_of_shape ["shape", "room"] [] := T.F_height_of_shape.bindsN fun _ _ _ _ _ _ us hl => match us, hl with | [_, _], _ => rfl
theorem b_need_shape {K : PySem.W.Frag} {mg : Str → Option Value} (T : TX K mg) : Binds K T.fd_need_shape ["thing", "room"] [] := T.F_need_shape.bindsN fun _ _ _ _ _ _ us hl => match us, hl with | [_, _], _ => rfl
theorem b_pairs_in_shape {K : PySem.W.Frag} {mg : Str → Option Value} (T : TX K mg) : Binds K T.fd_pairs_in_shape ["shape"] [] := T.F_pairs_in_shape.bindsN fun _ _ _ _ _ _ us hl => match us, hl with | [_], _ => rfl
theorem b_shape_of {K : PySem.W.Frag} {mg : Str → Option Value} (T : TX K mg) : Binds K T.fd_shape_of ["tree"] [] := T.F_shape_of.bindsN fun _ _ _ _ _ _ us hl => match us, hl with | [_], _ => rfl
theorem b_shape_beneath {K : PySem.W.Frag} {mg : Str → Option Value} (T : TX K mg) : Binds K T.fd_shape_beneath ["pages", "number"] [] := T.F_shape_beneath.bindsN fun _ _ _ _ _ _ us hl => match us, hl with | [_, _], _ => rfl
theorem b_set_down {K : PySem.W.Frag} {mg : Str → Option Value} (T : TX K mg) : Binds K T.fd_set_down ["shape", "pairs", "pages"] [] := T.F_set_down.bindsN fun _ _ _ _ _ _ us hl => match us, hl with | [_, _, _], _ => rfl
theorem b_linked {K : PySem.W.Frag} {mg : Str → Option Value} (T : TX K mg) : Binds K T.fd_linked ["pages"] [] := T.F_linked.bindsN fun _ _ _ _ _ _ us hl => match us, hl with | [_], _ => rfl
theorem b_law_pot {K : PySem.W.Frag} {mg : Str → Option Value} (T : TX K mg) : Binds K T.fd_law_pot ["script", "k"] [] := T.F_law_pot.bindsN fun _ _ _ _ _ _ us hl => match us, hl with | [_, _], _ => rfl
theorem b_law_take {K : PySem.W.Frag} {mg : Str → Option Value} (T : TX K mg) : Binds K T.fd_law_take ["pot", "many"] [] := T.F_law_take.bindsN fun _ _ _ _ _ _ us hl => match us, hl with | [_, _], _ => rfl
theorem b_law_shape {K : PySem.W.Frag} {mg : Str → Option Value} (T : TX K mg) : Binds K T.fd_law_shape ["pot", "space", "levels", "top", "wide"] [] := T.F_law_shape.bindsN fun _ _ _ _ _ _ us hl => match us, hl with | [_, _, _, _, _], _ => rfl
theorem b_law_many {K : PySem.W.Frag} {mg : Str → Option Value} (T : TX K mg) : Binds K T.fd_law_many ["shape"] [] := T.F_law_many.bindsN fun _ _ _ _ _ _ us hl => match us, hl with | [_], _ => rfl
theorem b_law_pairs {K : PySem.W.Frag} {mg : Str → Option Value} (T : TX K mg) : Binds K T.fd_law_pairs ["pot", "many"] [] := T.F_law_pairs.bindsN fun _ _ _ _ _ _ us hl => match us, hl with | [_, _], _ => rfl
theorem b_law_same {K : PySem.W.Frag} {mg : Str → Option Value} (T : TX K mg) : Binds K T.fd_law_same ["found", "due"] [] := T.F_law_same.bindsN fun _ _ _ _ _ _ us hl => match us, hl with | [_, _], _ => rfl
theorem b_law_grown {K : PySem.W.Frag} {mg : Str → Option Value} (T : TX K mg) : Binds K T.fd_law_grown ["shape", "rest", "pages"] [] := T.F_law_grown.bindsN fun _ _ _ _ _ _ us hl => match us, hl with | [_, _, _], _ => rfl
theorem b_law_due {K : PySem.W.Frag} {mg : Str → Option Value} (T : TX K mg) : Binds K T.fd_law_due ["shape", "pairs", "space"] [] := T.F_law_due.bindsN fun _ _ _ _ _ _ us hl => match us, hl with | [_, _, _], _ => rfl
theorem b_law_asked {K : PySem.W.Frag} {mg : Str → Option Value} (T : TX K mg) : Binds K T.fd_law_asked ["shape", "pairs", "space", "left_out"] [] := T.F_law_asked.bindsN fun _ _ _ _ _ _ us hl => match us, hl with | [_, _, _, _], _ => rfl
theorem b_law {K : PySem.W.Frag} {mg : Str → Option Value} (T : TX K mg) : Binds K T.fd_law ["script"] [] := T.F_law.bindsN fun _ _ _ _ _ _ us hl => match us, hl with | [_], _ => rfl
end K30

namespace K30
open PySem PySem.Spec PyProof.Rows L2 RZ HX
/-- a pot at p: its three numbers, the last at most B -/
def PotOk (H : Hp) (p : Addr) (B : Int) : Prop := ∃ x y c : Int, H p = some (.lst [.int x, .int y, .int c]) ∧ 0 ≤ x ∧ x < 2 ^ 2000 ∧ 0 ≤ y ∧ y < 2 ^ 61 ∧ 0 ≤ c ∧ c ≤ B
theorem PotOk.le {H : Hp} {p : Addr} {B C : Int} (h : PotOk H p B) (l : B ≤ C) : PotOk H p C := by
  obtain ⟨x, y, c, h1, h2, h3, h4, h5, h6, h7⟩ := h
  exact ⟨x, y, c, h1, h2, h3, h4, h5, h6, Int.le_trans h7 l⟩
theorem PotOk.same {H H' : Hp} {p : Addr} {B : Int} (h : PotOk H p B) (s : Same H H') : PotOk H' p B := by
  obtain ⟨x, y, c, h1, r⟩ := h
  exact ⟨x, y, c, s _ _ h1, r⟩
theorem PotOk.ne {H : Hp} {p q : Addr} {B : Int} (h : PotOk H p B) (n : H q = none) : p ≠ q := by
  obtain ⟨x, y, c, h1, r⟩ := h
  exact ne_of_none h1 n
theorem PotOk.new {H : Hp} {p q : Addr} {B : Int} {o : HO} (h : PotOk H p B) (n : H q = none) : PotOk (upd H q o) p B := h.same (same_new n)
theorem ten600 : (((10 : Int) ^ (60 : Int).toNat) ^ (10 : Int).toNat) < 2 ^ 2000 := by decide +kernel
section
variable {P : Program} {w : World} {K : PySem.W.Frag} {mg : Str → Option Value} {base : Heap}
def sp_law_pot (K : PySem.W.Frag) : Sp := fun vs H Q _ => ∃ (a : Addr) (ns : List Int) (k : Nat), vs = [.ref a, .int (k : Int)] ∧ SqL K H a (ns.map V.int) ∧ k ≤ 1000 ∧ ∀ H' p, Same H H' → H p = none → PotOk H' p 0 → Q (.ref p) H'
theorem ok_law_pot (T : TX K mg) : FnOk P w K mg base CX0 1 (He.ga K "_law_pot") T.fd_law_pot ["script", "k"] (sp_law_pot K) := by
  refine T.F_law_pot.ok sc_law_pot (fun vs H Q E h => ?_) (fun cdv A outer st H vs Q E hr h => ?_)
  · obtain ⟨a, ns, k, rfl, _⟩ := h
    rfl
  · obtain ⟨a, ns, k, rfl, hS, hk, kq⟩ := h
    refine ⟨_, PSs.nox (pss_cons (ps_set (i := 2) sc_law_pot.nd rfl (Or.inl rfl) pe_int)
 (Evl.pss_cut (ps_if (pt_cmpR op_lt (pv 1) (pe_callB call_len_seq rfl T.n_len PySem.boot_len (pa_cons (pv 0) pa_nil)) (nomark _))
 (pss_one (ps_set (i := 2) sc_law_pot.nd rfl (Or.inl rfl) (pe_op op_mod (pe_callB call_abs rfl T.n_abs (by decide +kernel) (pa_cons (pe_ix ix_list (pv 0) (pv 1) (fun _ _ => rfl)) pa_nil)) (pe_op op_powW (pe_op op_powW pe_int pe_int) pe_int))))
 pss_nil)
 (pss_one (ps_ret (pe_lst (pa_cons (pe_op op_mulW (pv 2) (pe_callTy call_int1 rfl T.n_int (by decide +kernel) (pa_cons (pe_cmpR op_ge (pv 2) (pe_op op_powW pe_int pe_int) (nomark _)) pa_nil))) (pa_cons (pe_op op_mod (pe_op op_powW (pe_op op_add (pe_op op_add (pe_op op_mod (pv 2) pe_int) (pe_op op_mulW pe_int (pv 1))) pe_int) pe_int) pe_int) (pa_cons pe_int pa_nil)))))))), ?_⟩
    refine ⟨fun σ' H' => ∃ cell : Int, σ' = [some (.ref a), some (.int (k : Int)), some (.int cell)] ∧ H' = H ∧ 0 ≤ cell ∧ cell < 2 ^ 2000, ?_, ?_⟩
    · refine ⟨_, rfl, _, rfl, a, _, rfl, .inl hS, _, _, rfl, rfl, _, rfl, ?_⟩
      refine ite2 (fun hc => ?_) (fun hc => ?_)
      · have hc' := of_decide_eq_true hc
        rw [List.length_map] at hc'
        obtain ⟨n, hn⟩ : ∃ n, ns[k]? = some n := ⟨ns[k]'(by omega), List.getElem?_eq_getElem (by omega)⟩
        refine ⟨_, rfl, _, rfl, a, _, _, _, rfl, rfl, hS, at_of (v := V.int n) (by rw [List.getElem?_map, hn]; rfl) rfl, _, rfl, ?_⟩
        have p1 : (0 : Int) < 10 ^ (60 : Int).toNat := Int.pow_pos (by decide)
        have p2 : (0 : Int) < ((10 : Int) ^ (60 : Int).toNat) ^ (10 : Int).toNat := Int.pow_pos p1
        refine ⟨_, _, rfl, rfl, powW_of (a := 4) (by decide) (by decide) (by decide) (by decide), _, _, rfl, rfl, powW_of (a := 200) (by decide) (by decide +kernel) (by decide) (by decide), _, _, rfl, rfl, p2, ?_⟩
        refine ⟨_, rfl, rfl, Int.emod_nonneg _ (Int.ne_of_gt p2), Int.lt_trans (Int.emod_lt_of_pos _ p2) ten600⟩
      · exact ⟨0, rfl, rfl, by decide, Int.pow_pos (by decide)⟩
    · rintro σ' H' ⟨cell, rfl, rfl, c0, c1⟩
      have cn : cell.natAbs < 2 ^ 2000 := by
        have z : ((cell.natAbs : Nat) : Int) < ((2 ^ 2000 : Nat) : Int) := by
          rw [Int.natAbs_of_nonneg c0]
          exact_mod_cast c1
        exact_mod_cast z
      refine ⟨_, rfl, _, rfl, _, _, rfl, rfl, powW_of (a := 4) (by decide) (by decide) (by decide) (by decide), _, _, rfl, rfl, .inr ⟨_, rfl, ?_⟩⟩
      have bb : ∀ b : Bool, (0 : Int) ≤ (if b = true then 1 else 0) ∧ (if b = true then 1 else 0 : Int) ≤ 1 := fun b => by cases b <;> decide
      obtain ⟨d0, d1⟩ := bb (decide ((10 : Int) ^ (18 : Int).toNat ≤ cell))
      generalize (if decide ((10 : Int) ^ (18 : Int).toNat ≤ cell) = true then 1 else 0 : Int) = d at d0 d1
      refine ⟨_, _, rfl, rfl, wide_mul (a := 2000) (b := 2) cn (by omega) (by decide) (by decide) (by decide), ?_⟩
      have m1 : 0 ≤ cell % 2147483629 := Int.emod_nonneg _ (by decide)
      have m2 : cell % 2147483629 < 2147483629 := Int.emod_lt_of_pos _ (by decide)
      refine ⟨_, rfl, _, _, rfl, rfl, (show (0 : Int) < 2147483629 by decide), _, rfl, _, _, rfl, rfl, wide_mul (a := 20) (b := 20) (by decide) (by omega) (by decide) (by decide) (by decide), _, _, rfl, rfl, _, _, rfl, rfl, _, _, rfl, rfl, powW_of (a := 64) (by decide) (by omega) (by decide) (by decide), _, _, rfl, rfl, (show (0 : Int) < 2305843009213693951 by decide), ?_⟩
      refine ⟨by show 3 ≤ sizeLine; decide, fun p hp => kq _ p (same_new hp) hp ⟨_, _, _, upd_same, Int.mul_nonneg c0 d0, ?_, Int.emod_nonneg _ (by decide), Int.lt_of_lt_of_le (Int.emod_lt_of_pos _ (by decide)) (by decide), Int.le_refl 0, Int.le_refl 0⟩⟩
      have z := Int.mul_le_mul_of_nonneg_left d1 c0
      rw [Int.mul_one] at z
      exact Int.lt_of_le_of_lt z c1
def sp_law_take : Sp := fun vs H Q _ => ∃ (p : Addr) (many B : Int), vs = [.ref p, .int many] ∧ 0 < many ∧ many < 2 ^ 60 ∧ PotOk H p B ∧ B < 2 ^ 40 ∧ ∀ H' v, But p H H' → PotOk H' p (B + 1) → 0 ≤ v → v < many → Q (.int v) H'
theorem ok_law_take (T : TX K mg) : FnOk P w K mg base CX0 1 (He.ga K "_law_take") T.fd_law_take ["pot", "many"] sp_law_take := by
  refine T.F_law_take.ok sc_law_take (fun vs H Q E h => ?_) (fun cdv A outer st H vs Q E hr h => ?_)
  · obtain ⟨p, many, B, rfl, _⟩ := h
    rfl
  · obtain ⟨p, many, B, rfl, hm0, hm1, ⟨x, y, c, hp, x0, x1, y0, y1, c0, c1⟩, hB, kq⟩ := h
    refine ⟨_, PSs.nox (pss_cons (ps_if (pt_cmpR op_gt (pe_ix ix_list (pv 0) pe_int (fun _ _ => rfl)) pe_int (nomark _))
 (pss_cons (ps_set (i := 2) sc_law_take.nd rfl (Or.inl rfl) (pe_op op_mod (pe_ix ix_list (pv 0) pe_int (fun _ _ => rfl)) (pv 1)))
 (pss_cons (ps_asg (pe_op op_fdivW (pe_ix ix_list (pv 0) pe_int (fun _ _ => rfl)) (pv 1)) (pg_sub (pv 0) pe_int set_list))
 (pss_one (ps_ret (pv 2)))))
 pss_nil)
 (pss_cons (ps_asg (pe_op op_add (pe_ix ix_list (pv 0) pe_int (fun _ _ => rfl)) pe_int) (pg_sub (pv 0) pe_int set_list))
 (pss_cons (ps_set (i := 3) sc_law_take.nd rfl (Or.inl rfl) (pe_op op_mod (pe_op op_powW (pe_op op_add (pe_ix ix_list (pv 0) pe_int (fun _ _ => rfl)) (pe_op op_mulW pe_int (pe_ix ix_list (pv 0) pe_int (fun _ _ => rfl)))) pe_int) pe_int))
 (pss_cons (ps_set (i := 4) sc_law_take.nd rfl (Or.inl rfl) (pe_op op_mod (pe_op op_powW (pe_op op_add (pe_op op_add (pv 3) (pe_op op_mod (pe_ix ix_list (pv 0) pe_int (fun _ _ => rfl)) pe_int)) (pe_op op_mulW pe_int (pe_ix ix_list (pv 0) pe_int (fun _ _ => rfl)))) pe_int) pe_int))
 (pss_one (ps_ret (pe_op op_mod (pe_op op_fdivW (pv 4) pe_int) (pv 1)))))))), ?_⟩
    have i0 : ∀ (a b c : V), atI [a, b, c] 0 = some a := fun _ _ _ => rfl
    have i1 : ∀ (a b c : V), atI [a, b, c] 1 = some b := fun _ _ _ => rfl
    have i2 : ∀ (a b c : V), atI [a, b, c] 2 = some c := fun _ _ _ => rfl
    have bt : ∀ {o : HO}, But p H (upd H p o) := (But.refl p H).upd
    refine ⟨_, rfl, p, _, _, _, rfl, rfl, SqL.of hp, i0 _ _ _, _, _, rfl, rfl, _, rfl, ?_⟩
    refine ite2 (fun hc => ?_) (fun hc => ?_)
    · refine ⟨_, rfl, p, _, _, _, rfl, rfl, SqL.of hp, i0 _ _ _, _, rfl, _, _, rfl, rfl, hm0, ?_⟩
      refine ⟨_, rfl, p, _, _, _, rfl, rfl, SqL.of hp, i0 _ _ _, _, rfl, _, _, rfl, rfl, wide_div (b := 60) hm0 (by omega) (by decide) (by decide), _, rfl, p, _, _, _, rfl, rfl, hp, rfl, ?_⟩
      refine ⟨_, rfl, kq _ _ bt ⟨_, _, _, upd_same, Int.ediv_nonneg x0 (Int.le_of_lt hm0), Int.lt_of_le_of_lt (Int.ediv_le_self _ x0) x1, y0, y1, c0, by omega⟩ (Int.emod_nonneg _ (Int.ne_of_gt hm0)) (Int.emod_lt_of_pos _ hm0)⟩
    · refine ⟨_, rfl, p, _, _, _, rfl, rfl, SqL.of hp, i2 _ _ _, _, _, rfl, rfl, _, rfl, p, _, _, _, rfl, rfl, hp, rfl, ?_⟩
      have h2 : upd H p (.lst ([V.int x, V.int y, V.int c].set 2 (.int (c + 1)))) p = some (.lst [.int x, .int y, .int (c + 1)]) := upd_same
      refine ⟨_, rfl, p, _, _, _, rfl, rfl, SqL.of h2, i1 _ _ _, _, rfl, p, _, _, _, rfl, rfl, SqL.of h2, i2 _ _ _, ?_⟩
      refine ⟨_, _, rfl, rfl, wide_mul (a := 20) (b := 42) (by decide) (by omega) (by decide) (by decide) (by decide), _, _, rfl, rfl, _, _, rfl, rfl, powW_of (a := 64) (by decide) (by omega) (by decide) (by decide), _, _, rfl, rfl, (show (0 : Int) < 2305843009213693921 by decide), ?_⟩
      have m1 : 0 ≤ (y + 104729 * (c + 1)) ^ (3 : Int).toNat % 2305843009213693921 := Int.emod_nonneg _ (by decide)
      have m2 : (y + 104729 * (c + 1)) ^ (3 : Int).toNat % 2305843009213693921 < 2305843009213693921 := Int.emod_lt_of_pos _ (by decide)
      generalize (y + 104729 * (c + 1)) ^ (3 : Int).toNat % 2305843009213693921 = one at m1 m2
      refine ⟨_, rfl, _, rfl, p, _, _, _, rfl, rfl, SqL.of h2, i1 _ _ _, _, _, rfl, rfl, (show (0 : Int) < 65537 by decide), _, _, rfl, rfl, _, rfl, p, _, _, _, rfl, rfl, SqL.of h2, i2 _ _ _, ?_⟩
      have m3 : 0 ≤ y % 65537 := Int.emod_nonneg _ (by decide)
      have m4 : y % 65537 < 65537 := Int.emod_lt_of_pos _ (by decide)
      generalize y % 65537 = yy at m3 m4
      refine ⟨_, _, rfl, rfl, wide_mul (a := 20) (b := 42) (by decide) (by omega) (by decide) (by decide) (by decide), _, _, rfl, rfl, _, _, rfl, rfl, powW_of (a := 64) (by decide) (by omega) (by decide) (by decide), _, _, rfl, rfl, (show (0 : Int) < 2305843009213693907 by decide), ?_⟩
      refine ⟨_, rfl, _, _, rfl, rfl, ⟨by decide, by decide⟩, _, rfl, _, _, rfl, rfl, hm0, ?_⟩
      exact kq _ _ bt ⟨_, _, _, h2, x0, x1, y0, y1, by omega, by omega⟩ (Int.emod_nonneg _ (Int.ne_of_gt hm0)) (Int.emod_lt_of_pos _ hm0)
end
end K30

namespace K30
open PySem PySem.Spec PyProof.Rows L2 RZ HX TR
theorem PotOk.keep {H H' : Hp} {p : Addr} {B : Int} (h : PotOk H p B) (b : But p H H') : Keep H H' := Keep.but b fun u z => by
  obtain ⟨x, y, c, h1, _⟩ := h
  rw [h1] at z
  cases z
  rfl
theorem PotOk.noTup {H : Hp} {p : Addr} {B : Int} (h : PotOk H p B) : ∀ u, H p = some u → tpb u = false := fun u z => by
  obtain ⟨x, y, c, h1, _⟩ := h
  rw [h1] at z
  cases z
  rfl
section
variable {P : Program} {w : World} {K : PySem.W.Frag} {mg : Str → Option Value} {base : Heap}
def sp_law_shape (N : Nat) : Sp := fun vs H Q _ => ∃ (p : Addr) (room l wide : Nat) (top : Bool) (B : Int), vs = [.ref p, .int (room : Int), .int ((l + 1 : Nat) : Int), .bl top, .int (wide : Int)] ∧ l < N ∧ 3 ≤ room ∧ room ≤ 8 ∧ wide ≤ 1000 ∧ PotOk H p B ∧ B + cS room l < 2 ^ 39 ∧
  ∀ (H' : Hp) (v : V) (s : Sh l), But p H H' → PotOk H' p (B + cS room l) → ShAt H' l v s → WfSh room l top s → Q v H'
theorem ok_law_shape (T : TX K mg) : ∀ N : Nat, FnOk P w K mg base CX0 (N + 2) (He.ga K "_law_shape") T.fd_law_shape ["pot", "space", "levels", "top", "wide"] (sp_law_shape N) := by
  intro N
  induction N with
  | zero =>
    refine T.F_law_shape.ok sc_law_shape (fun vs H Q E h => ?_) (fun cdv A outer st H vs Q E hr h => ?_)
    · obtain ⟨p, room, l, wide, top, B, rfl, _⟩ := h
      rfl
    · obtain ⟨p, room, l, wide, top, B, rfl, h1, _⟩ := h
      omega
  | succ N ih =>
    have G_law_shape := ih
    have b_law_shape := b_law_shape T
    have G_law_take : FnOk P w K mg base CX0 1 (He.ga K "_law_take") T.fd_law_take ["pot", "many"] sp_law_take := ok_law_take T
    have b_law_take := b_law_take T
    refine T.F_law_shape.ok sc_law_shape (fun vs H Q E h => ?_) (fun cdv A outer st H vs Q E hr h => ?_)
    · obtain ⟨p, room, l, wide, top, B, rfl, _⟩ := h
      rfl
    · obtain ⟨p, room, l, wide, top, B, rfl, hl, hr3, hr8, hw, hp, hB, kq⟩ := h
      refine ⟨_, PSs.nox (Evl.pss_cut (ps_set (i := 5) sc_law_shape.nd rfl (Or.inl rfl) (pe_ix ix_list (pe_lst (pa_cons (pe_op op_fdivW (pe_op op_add (pv 1) pe_int) pe_int) (pa_cons (pe_ix ix_list (pe_lst (pa_cons pe_int (pa_cons pe_int pa_nil))) (pe_callTy call_int1 rfl T.n_int (by decide +kernel) (pa_cons (pe_cmpR op_eq (pv 2) pe_int (nomark _)) pa_nil)) (fun _ _ => rfl)) pa_nil))) (pe_callTy call_int1 rfl T.n_int (by decide +kernel) (pa_cons (pv 3) pa_nil)) (fun _ _ => rfl)))
 (pss_cons (ps_if (pt_cmpR op_eq (pv 2) pe_int (nomark _))
 (pss_one (ps_ret (pe_op op_add (pv 5) (pe_call G_law_take (hr.mono (by first | decide | omega)) rfl T.g_law_take T.F_law_take.kp b_law_take .nil pass0 (pa_cons (pv 0) (pa_cons (pe_op op_add (pe_op op_sub (pv 1) (pv 5)) pe_int) pa_nil))))))
 pss_nil)
 (Evl.pss_cut (ps_set (i := 6) sc_law_shape.nd rfl (Or.inl rfl) (pe_op op_add (pv 5) (pe_call G_law_take (hr.mono (by first | decide | omega)) rfl T.g_law_take T.F_law_take.kp b_law_take .nil pass0 (pa_cons (pv 0) (pa_cons (pe_op op_add (pe_callB (call_min2 rfl) rfl T.n_min (by decide +kernel) (pa_cons (pv 4) (pa_cons (pe_op op_sub (pv 1) (pv 5)) pa_nil))) pe_int) pa_nil)))))
 (pss_one (ps_ret (pe_callTy call_tuple_of rfl T.n_tuple (by decide +kernel) (pa_cons (pe_lc (own := [("k", 7)]) (g := gName 7) (tt := tYes) rfl sc_law_shape.nd (pi_range1 rfl T.n_range (pa_cons (pv 6) pa_nil)) (blkOk_by (own := [("k", 7)]) (N := ["pot", "space", "levels", "top", "wide", "least", "many", "k"]) (sc := defScope s_law_shape) (by decide +kernel)) (fun _ _ _ _ _ => (pg_name (i := 7) sc_law_shape.nd rfl (Or.inl rfl))) (fun _ _ _ _ _ => pts_nil) (fun _ _ _ _ _ => (pe_call G_law_shape (hr.mono (by first | decide | omega)) rfl T.g_law_shape T.F_law_shape.kp b_law_shape .nil pass0 (pa_cons (pv 0) (pa_cons (pv 1) (pa_cons (pe_op op_sub (pv 2) pe_int) (pa_cons pe_bl (pa_cons (pv 4) pa_nil)))))))) pa_nil))))))), ?_⟩
      refine ⟨fun σ' H' => σ' = [some (.ref p), some (.int (room : Int)), some (.int ((l + 1 : Nat) : Int)), some (.bl top), some (.int (wide : Int)), some (.int ((loS room l top : Nat) : Int)), none, none] ∧ Same H H', ?_, ?_⟩
      · refine ⟨_, rfl, _, _, rfl, rfl, _, _, rfl, rfl, ⟨by decide, by decide⟩, by show 2 ≤ sizeLine; decide, fun q hq => ?_⟩
        refine ⟨_, rfl, rfl, .inr ⟨_, rfl, ?_⟩⟩
        have hx : ∃ z : Int, atI [V.int 2, V.int 0] (if decide (V.int ((l + 1 : Nat) : Int) = V.int 1) = true then 1 else 0) = some (.int z) ∧ z = ((if l = 0 then 0 else 2 : Nat) : Int) := by
          by_cases e : l = 0
          · subst e
            exact ⟨0, rfl, rfl⟩
          · have e2 : decide (V.int ((l + 1 : Nat) : Int) = V.int 1) = false := decide_eq_false fun z => e (by injection z with z; omega)
            rw [e2]
            exact ⟨2, rfl, by rw [if_neg e]; rfl⟩
        obtain ⟨z, hz1, hz2⟩ := hx
        refine ⟨q, _, _, _, rfl, rfl, SqL.of upd_same, hz1, by show 2 ≤ sizeLine; decide, fun q2 hq2 => ?_⟩
        refine ⟨_, rfl, .inr ⟨_, rfl, ?_⟩⟩
        have hy : atI [V.int (((room : Int) + 1) / 2), V.int z] (if top = true then 1 else 0) = some (.int ((loS room l top : Nat) : Int)) := by
          unfold loS
          cases top with
          | true =>
            rw [if_pos rfl, if_pos rfl, ← hz2]
            rfl
          | false =>
            have ez : ((room : Int) + 1) / 2 = (((room + 1) / 2 : Nat) : Int) := by omega
            rw [ez]
            rfl
        refine ⟨q2, _, _, _, rfl, rfl, SqL.of upd_same, hy, ?_⟩
        exact ⟨rfl, same_upd (same_new hq) (Same.free (same_new hq) hq2)⟩
      · rintro σ' H1 ⟨rfl, s1⟩
        have hp1 := hp.same s1
        have lo_le : loS room l top ≤ room := by unfold loS; split <;> (try split) <;> omega
        refine ⟨_, rfl, rfl, _, rfl, ?_⟩
        by_cases e : l = 0
        · have e2 : decide (V.int ((l + 1 : Nat) : Int) = V.int 1) = true := decide_eq_true (by rw [e]; rfl)
          rw [e2]
          refine iteT ?_
          subst e
          refine ⟨_, rfl, _, rfl, _, rfl, _, rfl, _, _, rfl, rfl, _, _, rfl, rfl, ?_⟩
          refine ⟨p, _, B, rfl, by omega, by omega, hp1, by omega, fun H2 v b2 hp2 l2 u2 => ⟨_, _, rfl, rfl, ?_⟩⟩
          refine kq H2 _ (loS room 0 top + v.toNat : Nat) (fun b o nb z => b2 b o nb (s1 b o z)) hp2 ?_ ⟨by show loS room 0 top ≤ loS room 0 top + v.toNat; omega, by show loS room 0 top + v.toNat ≤ room; omega⟩
          show V.int (((loS room 0 top : Nat) : Int) + v) = V.int ((loS room 0 top + v.toNat : Nat) : Int)
          congr 1
          omega
        · have e2 : decide (V.int ((l + 1 : Nat) : Int) = V.int 1) = false := decide_eq_false fun z => e (by injection z with z; omega)
          rw [e2]
          refine iteF ?_
          obtain ⟨l', rfl⟩ : ∃ l', l = l' + 1 := ⟨l - 1, by omega⟩
          have c1 : 1 ≤ cS room l' := by cases l' <;> (unfold cS; omega)
          have cc : cS room (l' + 1) = 1 + room * cS room l' := rfl
          have rc : 1 ≤ room * cS room l' := Nat.mul_pos (by omega) c1
          refine ⟨fun σ' H' => ∃ m : Nat, σ' = [some (.ref p), some (.int (room : Int)), some (.int ((l' + 1 + 1 : Nat) : Int)), some (.bl top), some (.int (wide : Int)), some (.int ((loS room (l' + 1) top : Nat) : Int)), some (.int (m : Int)), none] ∧ But p H H' ∧
            PotOk H' p (B + 1) ∧ loS room (l' + 1) top ≤ m ∧ m ≤ room, ?_, ?_⟩
          · refine ⟨_, rfl, _, rfl, _, rfl, _, rfl, _, rfl, _, _, rfl, rfl, _, _, rfl, _, _, rfl, rfl, ?_⟩
            refine ⟨p, _, B, rfl, by split <;> omega, by split <;> omega, hp1, by omega, fun H2 v b2 hp2 l2 u2 => ⟨_, _, rfl, rfl, ?_⟩⟩
            have u3 : v ≤ (room : Int) - ((loS room (l' + 1) top : Nat) : Int) := by split at u2 <;> omega
            refine ⟨loS room (l' + 1) top + v.toNat, ?_, fun b o nb z => b2 b o nb (s1 b o z), hp2, by omega, by omega⟩
            show [some (V.ref p), some (V.int (room : Int)), some (V.int ((l' + 1 + 1 : Nat) : Int)), some (V.bl top), some (V.int (wide : Int)), some (V.int ((loS room (l' + 1) top : Nat) : Int)), some (V.int (((loS room (l' + 1) top : Nat) : Int) + v)), none] = _
            rw [show ((loS room (l' + 1) top : Nat) : Int) + v = ((loS room (l' + 1) top + v.toNat : Nat) : Int) by omega]
          rintro σ' H2 ⟨m, rfl, bB, hp2, lom, mle⟩
          refine ⟨_, rfl, _, rfl, by omega, by omega, fun D hD => ?_⟩
          rw [show ((m : Int)).toNat = m by omega]
          have npD : p ≠ D := hp2.ne hD
          have mono : ∀ i : Nat, i ≤ m → B + 1 + ((i * cS room l' : Nat) : Int) + (cS room l' : Int) * ((if i < m then 1 else 0 : Nat) : Int) ≤ B + cS room (l' + 1) := by
            intro i hi
            have h1 : (i + (if i < m then 1 else 0)) * cS room l' ≤ room * cS room l' := Nat.mul_le_mul_right _ (by split <;> omega)
            rw [Nat.add_mul] at h1
            have e3 : ((i * cS room l' + (if i < m then 1 else 0) * cS room l' : Nat) : Int) ≤ ((room * cS room l' : Nat) : Int) := by omega
            have e4 : (cS room l' : Int) * ((if i < m then 1 else 0 : Nat) : Int) = (((if i < m then 1 else 0) * cS room l' : Nat) : Int) := by
              rw [Int.mul_comm]
              rfl
            rw [e4, cc]
            omega
          refine lc_it walk_range (fun i H' => But p H2 H' ∧ PotOk H' p (B + 1 + ((i * cS room l' : Nat) : Int)) ∧ ∃ (xs : List V) (ks : List (Sh l')), H' D = some (.lst xs) ∧ xs.length = i ∧ ks.length = i ∧ Paired (ShAt H' l') xs ks ∧ ∀ k ∈ ks, WfSh room l' false k)
            ⟨(But.refl p H2).new hD, by rw [Nat.zero_mul]; exact (hp2.le (by omega)).new hD, [], [], upd_same, rfl, rfl, .nil, fun k hk => nomatch hk⟩ (fun _ _ _ _ => trivial) ?_ ?_
          · rintro i x H3 H4 hi ⟨b3, hp3, xs, ks, hD3, hxl, hkl, hpr, hwf⟩ ⟨rfl, rfl⟩
            have mi := mono i (by omega)
            rw [if_pos hi] at mi
            refine ⟨rfl, ?_⟩
            dsimp only [tYes]
            rw [if_pos rfl]
            refine ⟨_, rfl, _, rfl, _, rfl, _, _, rfl, rfl, _, rfl, ?_⟩
            refine ⟨p, room, l', wide, false, B + 1 + ((i * cS room l' : Nat) : Int), ?_, by omega, hr3, hr8, hw, hp3, by omega, fun H5 v5 s5 b5 hp5 hs5 hw5 => ?_⟩
            · show [V.ref p, V.int (room : Int), V.int ((((l' + 1) + 1 : Nat) : Int) - 1), V.bl false, V.int (wide : Int)] = _
              rw [show (((l' + 1) + 1 : Nat) : Int) - 1 = ((l' + 1 : Nat) : Int) by omega]
            have k5 : Keep H4 H5 := hp3.keep b5
            have hD5 := b5 _ _ npD.symm hD3
            have tD : ∀ u, H5 D = some u → tpb u = false := fun u z => by
              rw [hD5] at z
              cases z
              rfl
            have k6 : Keep H5 (upd H5 D (.lst (xs ++ [v5]))) := (Keep.refl H5).upd tD
            refine ⟨xs, hD5, ?_, fun b o nb z => ?_, ?_, xs ++ [v5], ks ++ [s5], upd_same, by rw [List.length_append, hxl]; rfl, by rw [List.length_append, hkl]; rfl, ?_, ?_⟩
            · rw [hxl]
              exact Nat.lt_of_le_of_lt (by omega : i ≤ 1000) (by decide)
            · rw [upd_ne (ne_of_none z hD)]
              exact b5 b o nb (b3 b o nb z)
            · have hp6 : PotOk (upd H5 D (.lst (xs ++ [v5]))) p (B + 1 + ((i * cS room l' : Nat) : Int) + cS room l') := by
                obtain ⟨x, y, c, h1, r⟩ := hp5
                exact ⟨x, y, c, by rw [upd_ne npD]; exact h1, r⟩
              refine hp6.le ?_
              rw [Nat.succ_mul]
              omega
            · exact paired_snoc (hs5.keep k6) (paired_imp (fun _ _ r => (ShAt.keep k5 r).keep k6) hpr)
            · intro k hk
              rcases List.mem_append.mp hk with hk | hk
              · exact hwf k hk
              · obtain rfl := List.mem_singleton.mp hk
                exact hw5
          · rintro H3 ⟨b3, hp3, xs, ks, hD3, hxl, hkl, hpr, hwf⟩
            refine ⟨D, _, rfl, .inl ⟨SqL.of hD3, fun q hq => ?_⟩⟩
            have mi := mono m (by omega)
            rw [if_neg (by omega)] at mi
            refine kq _ (.ref q) ks (fun b o nb z => ?_) ((hp3.new hq).le (by omega)) ⟨q, xs, rfl, upd_same, paired_imp (fun _ _ r => ShAt.keep (Keep.of (same_new hq)) r) hpr⟩ ⟨?_, ?_, hwf⟩
            · have z3 := b3 b o nb (bB b o nb z)
              rw [upd_ne (ne_of_none z3 hq)]
              exact z3
            · show loS room (l' + 1) top ≤ ks.length
              omega
            · show ks.length ≤ room
              omega
end
end K30

namespace K30
open PySem PySem.Spec PyProof.Rows L2 RZ HX TR
theorem sum_cast {α : Type} (f : α → Nat) : ∀ xs : List α, (xs.map fun x => ((f x : Nat) : Int)).sum = ((xs.map f).sum : Nat)
  | [] => rfl
  | x :: xs => by
    rw [List.map_cons, List.sum_cons, List.map_cons, List.sum_cons, sum_cast f xs]
    omega
section
variable {P : Program} {w : World} {K : PySem.W.Frag} {mg : Str → Option Value} {base : Heap}
def sp_law_many (N : Nat) : Sp := fun vs H Q _ => ∃ (l room : Nat) (top : Bool) (v : V) (s : Sh l), vs = [v] ∧ l < N ∧ room ≤ 8 ∧ WfSh room l top s ∧ ShAt H l v s ∧ (∀ H', Same H H' → Q (.int (cntS l s : Int)) H')
theorem ok_law_many (T : TX K mg) : ∀ N : Nat, FnOk P w K mg base CX0 (N + 1) (He.ga K "_law_many") T.fd_law_many ["shape"] (sp_law_many N) := by
  intro N
  induction N with
  | zero =>
    refine T.F_law_many.ok sc_law_many (fun vs H Q E h => ?_) (fun cdv A outer st H vs Q E hr h => ?_)
    · obtain ⟨l, room, top, v, s, rfl, _⟩ := h
      rfl
    · obtain ⟨l, room, top, v, s, rfl, h1, _⟩ := h
      omega
  | succ N ih =>
    have G_law_many := ih
    have b_law_many := b_law_many T
    refine T.F_law_many.ok sc_law_many (fun vs H Q E h => ?_) (fun cdv A outer st H vs Q E hr h => ?_)
    · obtain ⟨l, room, top, v, s, rfl, _⟩ := h
      rfl
    · obtain ⟨l, room, top, v, s, rfl, hl, hr8, hwf, hs, kq⟩ := h
      refine ⟨_, PSs.nox (pss_cons (ps_if (pt_val (pe_callB call_isi rfl T.n_isinstance (by decide +kernel) (pa_cons (pv 0) (pa_cons (pe_ty "int" T.n_int (by decide +kernel)) pa_nil))))
 (pss_one (ps_ret (pv 0)))
 pss_nil)
 (pss_one (ps_ret (pe_callB (cr_sum rfl) rfl T.n_sum (by decide +kernel) (pa_cons (pe_lc (own := [("kid", 1)]) (g := gName 1) (tt := tYes) rfl sc_law_many.nd (pi_tup (pv 0)) (blkOk_by (own := [("kid", 1)]) (N := ["shape", "kid"]) (sc := defScope s_law_many) (by decide +kernel)) (fun _ _ _ _ _ => (pg_name (i := 1) sc_law_many.nd rfl (Or.inl rfl))) (fun _ _ _ _ _ => pts_nil) (fun _ _ _ _ _ => (pe_call G_law_many (hr.mono (by first | decide | omega)) rfl T.g_law_many T.F_law_many.kp b_law_many .nil pass0 (pa_cons (pv 1) pa_nil)))) pa_nil))))), ?_⟩
      cases l with
      | zero =>
        obtain rfl : v = .int (s.n : Int) := hs
        refine ⟨_, rfl, _, _, .type "int", .type "int", true, rfl, .ty "int", .base (.int _), kit_ty (by decide +kernel), true, rfl, ?_⟩
        refine iteT ?_
        exact ⟨_, rfl, kq H (Same.refl H)⟩
      | succ l =>
        obtain ⟨a, xs, rfl, ha, hp⟩ := hs
        refine ⟨_, rfl, _, _, .type "tuple", .type "int", false, rfl, .ty "int", .base (.tup ha), kit_ty (by decide +kernel), false, rfl, ?_⟩
        refine iteF ?_
        refine ⟨_, rfl, a, rfl, ⟨xs, SqT.of ha⟩, fun D hD => ?_⟩
        have hlen : xs.length = s.ks.length := Paired.length hp
        refine lc_it walk_tup (fun i H' => Same H H' ∧ H' D = some (.lst ((s.ks.take i).map fun k => V.int (cntS l k : Int)))) ⟨same_new hD, upd_same⟩ (fun i H' _ z => SqT.of (z.1 _ _ ha)) ?_ ?_
        · rintro i x H3 H4 hi ⟨s3, hD3⟩ ⟨rfl, hx⟩
          obtain ⟨k, hk, hsk⟩ := pget1 hp hx
          refine ⟨rfl, ?_⟩
          dsimp only [tYes]
          rw [if_pos rfl]
          refine ⟨_, rfl, l, room, false, x, k, rfl, by omega, hr8, hwf.2.2 k (List.mem_of_getElem? hk), hsk.keep (Keep.of s3), fun H5 s5 => ?_⟩
          refine ⟨_, s5 _ _ hD3, ?_, same_upd (s3.trans s5) hD, ?_⟩
          · rw [List.length_map, List.length_take]
            have z := hwf.2.1
            exact Nat.lt_of_le_of_lt (by omega : _ ≤ 8) (by decide)
          · rw [upd_same, take_more hk, List.map_append]
            rfl
        · rintro H3 ⟨s3, hD3⟩
          rw [hlen, List.take_length] at hD3
          refine ⟨D, s.ks.map fun k => (cntS l k : Int), rfl, SqL.of (by rw [hD3, List.map_map]; rfl), ?_⟩
          rw [sum_cast]
          exact kq H3 s3
def sp_law_pages (N : Nat) : Sp := fun vs H Q _ => ∃ (l room : Nat) (top : Bool) (v : V) (s : Sh l), vs = [v] ∧ l < N ∧ room ≤ 8 ∧ WfSh room l top s ∧ ShAt H l v s ∧ (∀ H', Same H H' → Q (.int (pgsS l s : Int)) H')
end
end K30

namespace K30
open PySem PySem.Spec PyProof.Rows L2 RZ HX TR
/-- a list of pairs -/
def PrsAt (H : Hp) (a : Addr) (ps : List (Int × Int)) : Prop := ∃ xs : List V, H a = some (.lst xs) ∧ Paired (PrAt H) xs ps
/-- pairs as a tree has them -/
def PrsOk (ps : List (Int × Int)) : Prop := ps.Pairwise (fun a b => a.1 < b.1) ∧ ∀ q ∈ ps, 0 ≤ q.1 ∧ q.1 ≤ 1000000000 ∧ 0 ≤ q.2 ∧ q.2 ≤ 1000000000
/-- but for the last one the keys are small -/
def PrsLow (ps : List (Int × Int)) : Prop := ∀ (j : Nat) (q : Int × Int), ps[j]? = some q → j + 1 < ps.length → q.1 < 100000000
theorem pick2 {q : Addr} {H : Hp} {a b : Int} {c : Bool} (h : H q = some (.lst [.int a, .int b])) : ∃ v : Int, H q = some (.lst [.int a, .int b]) ∧ atI [V.int a, V.int b] (if c = true then 1 else 0) = some (.int v) ∧ (v = a ∨ v = b) := by
  cases c with
  | true => exact ⟨b, h, rfl, .inr rfl⟩
  | false => exact ⟨a, h, rfl, .inl rfl⟩
theorem paired_set {α β : Type} {R : α → β → Prop} {x : α} {y : β} : ∀ {xs : List α} {ys : List β} {c : Nat}, Paired R xs ys → R x y → Paired R (xs.set c x) (ys.set c y)
  | _, _, _, .nil, _ => .nil
  | _, _, 0, .cons _ rs, h => .cons h rs
  | _, _, _ + 1, .cons r rs, h => .cons r (paired_set rs h)
theorem prsOk_set {ps : List (Int × Int)} {c : Nat} {y : Int × Int} (h : PrsOk ps) (hl : ps.length = c + 1) (hy : ps[c]? = some y) (hb : ∀ q ∈ ps, q.1 < 10 ^ 9) : PrsOk (ps.set c (10 ^ 9, y.2)) := by
  have e : ps = ps.take c ++ [y] := by
    rw [← take_more hy, List.take_of_length_le (by omega)]
  have e2 : ps.set c ((10 : Int) ^ 9, y.2) = ps.take c ++ [((10 : Int) ^ 9, y.2)] := by
    have hl' : (ps.take c).length = c := by rw [List.length_take]; omega
    rw [e, List.set_append, if_neg (by rw [hl']; omega), hl', Nat.sub_self, List.take_left' hl']
    rfl
  have hp := h.1
  rw [e] at hp
  obtain ⟨h1, _, _⟩ := List.pairwise_append.mp hp
  rw [e2]
  refine ⟨List.pairwise_append.mpr ⟨h1, List.pairwise_singleton _ _, fun a ha b hb' => ?_⟩, fun q hq => ?_⟩
  · obtain rfl := List.mem_singleton.mp hb'
    exact hb a (List.mem_of_mem_take ha)
  · rcases List.mem_append.mp hq with hq | hq
    · exact h.2 q (List.mem_of_mem_take hq)
    · obtain rfl := List.mem_singleton.mp hq
      have := h.2 y (by rw [e]; exact List.mem_append_right _ (List.mem_singleton.mpr rfl))
      exact ⟨(by decide : (0 : Int) ≤ 10 ^ 9), (by decide : (10 : Int) ^ 9 ≤ 1000000000), this.2.2⟩
section
variable {P : Program} {w : World} {K : PySem.W.Frag} {mg : Str → Option Value} {base : Heap}
def sp_law_pairs : Sp := fun vs H Q _ => ∃ (p : Addr) (many : Nat) (B : Int), vs = [.ref p, .int (many : Int)] ∧ many ≤ 40000 ∧ PotOk H p B ∧ B + 10 * many + 10 < 2 ^ 39 ∧
  ∀ (H' : Hp) (a : Addr) (ps : List (Int × Int)), But p H H' → PotOk H' p (B + 10 * many + 10) → H a = none → PrsAt H' a ps → ps.length = many → PrsOk ps → PrsLow ps → Q (.ref a) H'
theorem ok_law_pairs (T : TX K mg) : FnOk P w K mg base CX0 2 (He.ga K "_law_pairs") T.fd_law_pairs ["pot", "many"] sp_law_pairs := by
  have G_law_take : FnOk P w K mg base CX0 1 (He.ga K "_law_take") T.fd_law_take ["pot", "many"] sp_law_take := ok_law_take T
  have b_law_take := b_law_take T
  refine T.F_law_pairs.ok sc_law_pairs (fun vs H Q E h => ?_) (fun cdv A outer st H vs Q E hr h => ?_)
  · obtain ⟨p, many, B, rfl, _⟩ := h
    rfl
  · obtain ⟨p, many, B, rfl, hm, hp, hB, kq⟩ := h
    refine ⟨_, PSs.nox (pss_cons (ps_set (i := 2) sc_law_pairs.nd rfl (Or.inl rfl) (pe_lst pa_nil))
 (Evl.pss_cut (ps_set (i := 3) sc_law_pairs.nd rfl (Or.inl rfl) (pe_ix ix_list (pe_lst (pa_cons pe_int (pa_cons (pe_call G_law_take (hr.mono (by first | decide | omega)) rfl T.g_law_take T.F_law_take.kp b_law_take .nil pass0 (pa_cons (pv 0) (pa_cons pe_int pa_nil))) (pa_cons (pe_call G_law_take (hr.mono (by first | decide | omega)) rfl T.g_law_take T.F_law_take.kp b_law_take .nil pass0 (pa_cons (pv 0) (pa_cons (pe_op op_powW pe_int pe_int) pa_nil))) pa_nil)))) (pe_call G_law_take (hr.mono (by first | decide | omega)) rfl T.g_law_take T.F_law_take.kp b_law_take .nil pass0 (pa_cons (pv 0) (pa_cons pe_int pa_nil))) (fun _ _ => rfl)))
 (pss_cons (ps_for PassesOwn.never rfl (pi_range1 rfl T.n_range (pa_cons (pv 1) pa_nil)) (pg_name (i := 4) sc_law_pairs.nd rfl (Or.inl rfl))
 (Evl.pss_cut (ps_expr (pe_bm PySem.F.plainAttrs_list PySem.F.slot_list_append PySem.F.type_list_append mt_append (pv 2) (pa_cons (pe_tup (pa_cons (pv 3) (pa_cons (pe_ix ix_list (pe_lst (pa_cons (pe_call G_law_take (hr.mono (by first | decide | omega)) rfl T.g_law_take T.F_law_take.kp b_law_take .nil pass0 (pa_cons (pv 0) (pa_cons pe_int pa_nil))) (pa_cons (pe_call G_law_take (hr.mono (by first | decide | omega)) rfl T.g_law_take T.F_law_take.kp b_law_take .nil pass0 (pa_cons (pv 0) (pa_cons (pe_op op_add (pe_op op_powW pe_int pe_int) pe_int) pa_nil))) pa_nil))) (pe_callTy call_int1 rfl T.n_int (by decide +kernel) (pa_cons (pe_cmpR op_eq (pe_call G_law_take (hr.mono (by first | decide | omega)) rfl T.g_law_take T.F_law_take.kp b_law_take .nil pass0 (pa_cons (pv 0) (pa_cons pe_int pa_nil))) pe_int (nomark _)) pa_nil)) (fun _ _ => rfl)) pa_nil))) pa_nil)))
 (pss_one (ps_set (i := 3) sc_law_pairs.nd rfl (Or.inl rfl) (pe_op op_add (pe_op op_add (pv 3) pe_int) (pe_ix ix_list (pe_lst (pa_cons (pe_call G_law_take (hr.mono (by first | decide | omega)) rfl T.g_law_take T.F_law_take.kp b_law_take .nil pass0 (pa_cons (pv 0) (pa_cons pe_int pa_nil))) (pa_cons (pe_call G_law_take (hr.mono (by first | decide | omega)) rfl T.g_law_take T.F_law_take.kp b_law_take .nil pass0 (pa_cons (pv 0) (pa_cons pe_int pa_nil))) pa_nil))) (pe_callTy call_int1 rfl T.n_int (by decide +kernel) (pa_cons (pe_cmpR op_eq (pe_call G_law_take (hr.mono (by first | decide | omega)) rfl T.g_law_take T.F_law_take.kp b_law_take .nil pass0 (pa_cons (pv 0) (pa_cons pe_int pa_nil))) pe_int (nomark _)) pa_nil)) (fun _ _ => rfl)))))))
 (Evl.pss_cut (ps_if (PW.pt (pw_and (pt_cmpR op_gt (pv 1) pe_int (nomark _)) (pw_and1 (pt_cmpR op_eq (pe_call G_law_take (hr.mono (by first | decide | omega)) rfl T.g_law_take T.F_law_take.kp b_law_take .nil pass0 (pa_cons (pv 0) (pa_cons pe_int pa_nil))) pe_int (nomark _)))))
 (pss_one (ps_asg (pe_tup (pa_cons (pe_op op_powW pe_int pe_int) (pa_cons (pe_ix ix_tup (pe_ix ix_list (pv 2) (pe_un un_neg pe_int) (fun _ _ => rfl)) pe_int (fun _ _ => rfl)) pa_nil))) (pg_sub (pv 2) (pe_un un_neg pe_int) set_list)))
 pss_nil)
 (pss_one (ps_ret (pv 2))))))), ?_⟩
    refine ⟨Nat.zero_le _, fun f hf => ?_⟩
    have npf : p ≠ f := hp.ne hf
    have hp0 := hp.new (o := .lst []) hf
    -- key
    refine ⟨fun σ' H' => ∃ key : Int, σ' = [some (.ref p), some (.int (many : Int)), some (.ref f), some (.int key), none] ∧ But p H H' ∧ PotOk H' p (B + 3) ∧ H' f = some (.lst []) ∧ 0 ≤ key ∧ key ≤ 1000000, ?_, ?_⟩
    · refine ⟨_, rfl, p, 9, B, rfl, by decide, by decide, hp0, by omega, fun H1 v1 b1 hp1 l1 u1 => ?_⟩
      refine ⟨_, rfl, _, _, rfl, rfl, powW_of (a := 4) (by decide) (by decide) (by decide) (by decide), p, _, B + 1, rfl, by decide, by decide, hp1, by omega, fun H2 v2 b2 hp2 l2 u2 => ?_⟩
      refine ⟨by show 3 ≤ sizeLine; decide, fun q hq => ?_⟩
      have npq : p ≠ q := hp2.ne hq
      refine ⟨_, rfl, p, 3, B + 1 + 1, rfl, by decide, by decide, hp2.new hq, by omega, fun H3 v3 b3 hp3 l3 u3 => ?_⟩
      have hq3 : H3 q = some (.lst [.int 0, .int v1, .int v2]) := b3 _ _ npq.symm upd_same
      have hf2 : H2 f = some (.lst []) := b2 _ _ npf.symm (b1 _ _ npf.symm upd_same)
      have nfq : f ≠ q := ne_of_none hf2 hq
      have hf3 : H3 f = some (.lst []) := b3 _ _ npf.symm (by rw [upd_ne nfq]; exact hf2)
      have bt : But p H H3 := fun b o nb z => b3 b o nb (by
        have z2 := b2 b o nb (b1 b o nb (by rw [upd_ne (ne_of_none z hf)]; exact z))
        rw [upd_ne (ne_of_none z2 hq)]
        exact z2)
      have u2' : v2 < 1000000 := u2
      have pick : ∃ v : Int, atI [V.int 0, V.int v1, V.int v2] v3 = some (.int v) ∧ 0 ≤ v ∧ v ≤ 1000000 := by
        rcases (by omega : v3 = 0 ∨ v3 = 1 ∨ v3 = 2) with rfl | rfl | rfl
        · exact ⟨0, rfl, by omega, by omega⟩
        · exact ⟨v1, rfl, by omega, by omega⟩
        · exact ⟨v2, rfl, by omega, by omega⟩
      obtain ⟨v, hv, hv0, hv1⟩ := pick
      refine ⟨q, _, _, _, rfl, rfl, SqL.of hq3, hv, ?_⟩
      exact ⟨v, rfl, bt, hp3.le (by omega), hf3, hv0, hv1⟩
    rintro σ' H1 ⟨key, rfl, b1, hp1, hf1, k0, k1⟩
    refine ⟨_, rfl, _, rfl, by omega, by omega, ?_⟩
    rw [show ((many : Int)).toNat = many by omega]
    refine for_range (fun i σ H' => ∃ key v4, σ = [some (.ref p), some (.int (many : Int)), some (.ref f), some (.int key), v4] ∧ But p H H' ∧ PotOk H' p (B + 3 + 6 * i) ∧ 0 ≤ key ∧ key ≤ 1000000 + 41 * i ∧
      ∃ ps, PrsAt H' f ps ∧ ps.length = i ∧ PrsOk ps ∧ ∀ q ∈ ps, q.1 < key) ⟨key, _, rfl, b1, hp1.le (by omega), k0, by omega, [], ⟨[], hf1, .nil⟩, rfl, ⟨.nil, fun q hq => nomatch hq⟩, fun q hq => nomatch hq⟩ ?_ ?_
    · rintro i σ H2 hi ⟨key, v4, rfl, b2, hp2, k0, k1, ps, ⟨xs, hx, hpr⟩, hlen, hok, hlt⟩
      have hxl : xs.length = i := by rw [← hlen]; exact Paired.length hpr
      -- found.append
      refine ⟨fun σ' H' => σ' = [some (.ref p), some (.int (many : Int)), some (.ref f), some (.int key), some (.int (0 + (i : Nat)))] ∧ But p H H' ∧ PotOk H' p (B + 3 + 6 * i + 3) ∧
        ∃ val : Int, 0 ≤ val ∧ val ≤ 1000000000 ∧ PrsAt H' f (ps ++ [(key, val)]), ?_, ?_⟩
      · refine ⟨_, rfl, .inl ⟨rfl, _, SqL.of hx⟩, ?_⟩
        refine ⟨_, rfl, _, rfl, p, 5, _, rfl, by decide, by decide, hp2, by omega, fun H3 v1 b3 hp3 l1 u1 => ?_⟩
        refine ⟨_, rfl, _, _, rfl, rfl, powW_of (a := 4) (by decide) (by decide) (by decide) (by decide), _, _, rfl, rfl, p, _, _, rfl, by decide, by decide, hp3, by omega, fun H4 v2 b4 hp4 l2 u2 => ?_⟩
        refine ⟨by show 2 ≤ sizeLine; decide, fun q hq => ?_⟩
        have npq : p ≠ q := hp4.ne hq
        refine ⟨_, rfl, p, 4, _, rfl, by decide, by decide, hp4.new hq, by omega, fun H5 v3 b5 hp5 l3 u3 => ?_⟩
        refine ⟨rfl, .inr ⟨_, rfl, ?_⟩⟩
        have u2' : v2 < 1000000001 := u2
        obtain ⟨v, hq5, hv, hvv⟩ := pick2 (c := decide (V.int v3 = V.int 0)) (b5 _ _ npq.symm upd_same : H5 q = some (.lst [.int v1, .int v2]))
        refine ⟨q, _, _, _, rfl, rfl, SqL.of hq5, hv, by show 2 ≤ sizeLine; decide, fun t ht => ?_⟩
        have b23 : But p H2 H4 := b3.trans b4
        have b25 : But p H2 H5 := fun b o nb z => b5 b o nb (by
          have z4 := b23 b o nb z
          rw [upd_ne (ne_of_none z4 hq)]
          exact z4)
        have hx5 := b25 _ _ npf.symm hx
        have nft : f ≠ t := ne_of_none hx5 ht
        have nft' : ∀ uu, upd H5 t (.tup [.int key, .int v]) f = some uu → tpb uu = false := fun uu z => by
          rw [upd_ne nft, hx5] at z
          cases z
          rfl
        refine ⟨f, _, _, rfl, rfl, (by rw [upd_ne nft]; exact hx5), by rw [hxl]; exact Nat.lt_of_le_of_lt (by omega : i ≤ 40000) (by decide), ?_⟩
        have k6 : Keep H2 (upd (upd H5 t (.tup [.int key, .int v])) f (.lst (xs ++ [.ref t]))) := ((hp2.keep b25).trans (Keep.of (same_new ht))).trans ((Keep.refl _).upd nft')
        refine ⟨rfl, fun b o nb z => ?_, ?_, v, by omega, by omega, xs ++ [.ref t], upd_same, ?_⟩
        · have z5 := b25 b o nb (b2 b o nb z)
          rw [upd_ne (ne_of_none z hf), upd_ne (ne_of_none z5 ht)]
          exact z5
        · have h6 := hp5.new (o := .tup [.int key, .int v]) ht
          obtain ⟨x, y, c, h1, r⟩ := h6.le (by omega : _ ≤ B + 3 + 6 * i + 3)
          exact ⟨x, y, c, by rw [upd_ne npf]; exact h1, r⟩
        · refine paired_snoc ⟨t, rfl, by rw [upd_ne nft.symm, upd_same]⟩ (paired_imp (fun _ _ r => PrAt.keep k6 r) hpr)
      rintro σ' H3 ⟨rfl, b3, hp3, val, w0, w1, xs3, hx3, hpr3⟩
      -- key
      refine ⟨_, rfl, _, _, rfl, rfl, ?_⟩
      refine ⟨_, rfl, p, 3, _, rfl, by decide, by decide, hp3, by omega, fun H4 v1 b4 hp4 l1 u1 => ?_⟩
      refine ⟨_, rfl, p, 40, _, rfl, by decide, by decide, hp4, by omega, fun H5 v2 b5 hp5 l2 u2 => ?_⟩
      refine ⟨by show 2 ≤ sizeLine; decide, fun q hq => ?_⟩
      have npq : p ≠ q := hp5.ne hq
      refine ⟨_, rfl, p, 5, _, rfl, by decide, by decide, hp5.new hq, by omega, fun H6 v3 b6 hp6 l3 u3 => ?_⟩
      refine ⟨rfl, .inr ⟨_, rfl, ?_⟩⟩
      obtain ⟨v, hq6, hv, hvv⟩ := pick2 (c := decide (V.int v3 = V.int 0)) (b6 _ _ npq.symm upd_same : H6 q = some (.lst [.int v1, .int v2]))
      refine ⟨q, _, _, _, rfl, rfl, SqL.of hq6, hv, _, _, rfl, rfl, ?_⟩
      have b36 : But p H3 H6 := fun b o nb z => b6 b o nb (by
        have z4 := b5 b o nb (b4 b o nb z)
        rw [upd_ne (ne_of_none z4 hq)]
        exact z4)
      refine ⟨_, _, rfl, b3.trans b36, hp6.le (by omega), by omega, by omega, ps ++ [(key, val)], ⟨xs3, b36 _ _ npf.symm hx3, paired_imp (fun _ _ r => PrAt.keep (hp3.keep b36) r) hpr3⟩, by rw [List.length_append, hlen]; rfl, ⟨?_, fun z hz => ?_⟩, fun z hz => ?_⟩
      · refine List.pairwise_append.mpr ⟨hok.1, List.pairwise_singleton _ _, fun a ha b hb => ?_⟩
        obtain rfl := List.mem_singleton.mp hb
        exact hlt a ha
      · rcases List.mem_append.mp hz with hz | hz
        · exact hok.2 z hz
        · obtain rfl := List.mem_singleton.mp hz
          exact ⟨k0, by show key ≤ 1000000000; omega, w0, w1⟩
      · rcases List.mem_append.mp hz with hz | hz
        · have := hlt z hz
          omega
        · obtain rfl := List.mem_singleton.mp hz
          show key < key + 1 + v
          omega
    · rintro σ H2 ⟨key, v4, rfl, b2, hp2, k0, k1, ps, ⟨xs, hx, hpr⟩, hlen, hok, hlt⟩
      have hxl : xs.length = many := by rw [← hlen]; exact Paired.length hpr
      have fin : ∀ (H' : Hp) (ps' : List (Int × Int)), But p H H' → PotOk H' p (B + 3 + 6 * many + 1) → PrsAt H' f ps' → ps'.length = many → PrsOk ps' → PrsLow ps' → Q (.ref f) H' := fun H' ps' hb hpp ha hl ho hlow => kq H' f ps' hb (hpp.le (by omega)) hf ha hl ho hlow
      have low : PrsLow ps := fun j q hj _ => by
        have := hlt q (List.mem_of_getElem? hj)
        omega
      refine ⟨fun σ' H' => ∃ key v4, σ' = [some (.ref p), some (.int (many : Int)), some (.ref f), some (.int key), v4] ∧ ∃ ps', But p H H' ∧ PotOk H' p (B + 3 + 6 * many + 1) ∧ PrsAt H' f ps' ∧ ps'.length = many ∧ PrsOk ps' ∧ PrsLow ps', ?_, ?_⟩
      · refine ⟨_, rfl, _, _, rfl, rfl, _, rfl, ?_⟩
        refine ite2 (fun hc => ?_) (fun hc => ?_)
        · have hc' := of_decide_eq_true hc
          refine ⟨_, rfl, p, 9, _, rfl, by decide, by decide, hp2, by omega, fun H3 v b3 hp3 l3 u3 => ?_⟩
          refine ⟨rfl, _, rfl, ?_⟩
          have hx3 := b3 _ _ npf.symm hx
          have k3 := hp2.keep b3
          refine ite2 (fun hc2 => ?_) (fun hc2 => ?_)
          · -- the last one
            obtain ⟨c, hcm⟩ : ∃ c, many = c + 1 := ⟨many - 1, by omega⟩
            have hxc : xs[c]? = some (xs[c]'(by omega)) := List.getElem?_eq_getElem (by omega)
            obtain ⟨y, hy, t, et, ht⟩ := pget1 hpr hxc
            rw [et] at hxc
            have ht3 := k3 _ _ ht
            refine ⟨_, _, rfl, rfl, powW_of (a := 10) (by decide) (by decide) (by decide) (by decide), ?_⟩
            refine ⟨_, rfl, 1, rfl, f, _, _, _, rfl, rfl, SqL.of hx3, at_last (by omega : xs.length = c + 1) hxc, t, _, _, _, rfl, rfl, SqT.of ht3, rfl, by show 2 ≤ sizeLine; decide, fun u hu => ?_⟩
            have nfu : f ≠ u := ne_of_none hx3 hu
            have hxu : upd H3 u (.tup [.int (10 ^ 9), .int y.2]) f = some (.lst xs) := by rw [upd_ne nfu]; exact hx3
            have nft' : ∀ uu, upd H3 u (.tup [.int (10 ^ 9), .int y.2]) f = some uu → tpb uu = false := fun uu z => by
              rw [hxu] at z
              cases z
              rfl
            have ixl' : ixN xs.length (-1) = some c := by
              unfold ixN
              rw [if_neg (by decide), if_pos (by omega)]
              congr 1
              omega
            refine ⟨_, rfl, 1, rfl, f, _, _, c, rfl, rfl, hxu, ixl', ?_⟩
            have k6 : Keep H2 (upd (upd H3 u (.tup [.int (10 ^ 9), .int y.2])) f (.lst (xs.set c (.ref u)))) := (k3.trans (Keep.of (same_new hu))).trans ((Keep.refl _).upd nft')
            refine ⟨_, _, rfl, ps.set c (10 ^ 9, y.2), fun b o nb z => ?_, ?_, ⟨_, upd_same, ?_⟩, by rw [List.length_set]; exact hlen, ?_, fun j q hj hj2 => ?_⟩
            · have z3 := b3 b o nb (b2 b o nb z)
              rw [upd_ne (ne_of_none z hf), upd_ne (ne_of_none z3 hu)]
              exact z3
            · obtain ⟨x, y, c, h1, r⟩ := hp3
              exact ⟨x, y, c, by rw [upd_ne npf, upd_ne (ne_of_none h1 hu)]; exact h1, r⟩
            · exact paired_set (paired_imp (fun _ _ r => PrAt.keep k6 r) hpr) ⟨u, rfl, by rw [upd_ne nfu.symm, upd_same]; rfl⟩
            · have hb : ∀ q ∈ ps, q.1 < (10 : Int) ^ 9 := fun z hz => by
                have z1 := hlt z hz
                have z2 : (10 : Int) ^ 9 = 1000000000 := by decide
                rw [z2]
                omega
              exact prsOk_set hok (by omega) hy hb
            · rw [List.length_set] at hj2
              rw [List.getElem?_set_ne (by omega)] at hj
              exact low j q hj hj2
          · exact ⟨_, _, rfl, ps, b2.trans b3, hp3, ⟨xs, hx3, paired_imp (fun _ _ r => PrAt.keep k3 r) hpr⟩, hlen, hok, low⟩
        · exact ⟨_, _, rfl, ps, b2, hp2.le (by omega), ⟨xs, hx, hpr⟩, hlen, hok, low⟩
      · rintro σ' H3 ⟨key, v4, rfl, ps', b3, hp3, ha3, hl3, ho3, low3⟩
        exact ⟨_, rfl, fin H3 ps' b3 hp3 ha3 hl3 ho3 low3⟩
end
end K30

namespace K30
open PySem PySem.Spec PyProof.Rows L2 RZ HX TR
theorem cut_to {xs : List V} {n : Nat} (h : n ≤ xs.length) : cutV xs none (some (n : Int)) = xs.take n := by
  have e1 : HT.sIx xs.length 0 none = 0 := rfl
  have e2 : HT.sIx xs.length xs.length (some (n : Int)) = n := by rw [HT.sIx_nat]; omega
  unfold cutV
  rw [e1, e2]
  rfl
theorem cut_from {xs : List V} {n : Nat} (h : n ≤ xs.length) : cutV xs (some (n : Int)) none = xs.drop n := by
  have e1 : HT.sIx xs.length 0 (some (n : Int)) = n := by rw [HT.sIx_nat]; omega
  have e2 : HT.sIx xs.length xs.length none = xs.length := rfl
  unfold cutV
  rw [e1, e2, List.take_of_length_le (by rw [List.length_drop]; omega)]
theorem seq0 (n : Nat) : seqIndex? 0 (n + 1) = some 0 := by
  show (if (decide ((0 : Int) ≤ 0) && decide ((0 : Int) < ((n + 1 : Nat) : Int))) = true then some (0 : Int).toNat else none) = some 0
  rw [if_pos (by simp)]
  rfl
/-- a tuple just made, of which one knows that it has no dict -/
def FzT (H : Hp) (a : Addr) (xs : List V) : Prop := ∃ o : Obj, H a = some (.frz o (.tup xs)) ∧ o.dict = none
theorem FzT.keep {H H' : Hp} (k : Keep H H') {a : Addr} {xs : List V} (h : FzT H a xs) : FzT H' a xs := by
  obtain ⟨o, h1, h2⟩ := h
  exact ⟨o, k.frz h1, h2⟩
theorem FzT.same {H H' : Hp} (k : Same H H') {a : Addr} {xs : List V} (h : FzT H a xs) : FzT H' a xs := h.keep (Keep.of k)
theorem FzT.sq {K : PySem.W.Frag} {H : Hp} {a : Addr} {xs : List V} (h : FzT H a xs) : SqT K H a xs := by
  obtain ⟨o, h1, _⟩ := h
  exact .inl (.inr ⟨o, h1⟩)
theorem FzT.ty {K : PySem.W.Frag} {H : Hp} {a : Addr} {xs : List V} (h : FzT H a xs) : TyX K H (.ref a) (.type "tuple") := by
  obtain ⟨o, h1, _⟩ := h
  exact .fTuple h1
def PrT (H : Hp) (a : Addr) (ps : List (Int × Int)) : Prop := ∃ xs : List V, FzT H a xs ∧ Paired (PrAt H) xs ps
theorem PrT.keep {H H' : Hp} (k : Keep H H') {a : Addr} {ps : List (Int × Int)} (h : PrT H a ps) : PrT H' a ps := by
  obtain ⟨xs, h1, h2⟩ := h
  exact ⟨xs, h1.keep k, paired_imp (fun _ _ r => PrAt.keep k r) h2⟩
def PgAt (H : Hp) (v : V) : Pg → Prop
  | .leaf ps nx => ∃ t q, v = .ref t ∧ H t = some (.tup [.str "leaf", .ref q, .int nx]) ∧ PrT H q ps
  | .node ks kids => ∃ t q1 q2, v = .ref t ∧ H t = some (.tup [.str "node", .ref q1, .ref q2]) ∧ H q1 = some (.tup (ks.map V.int)) ∧ FzT H q2 (kids.map V.int)
theorem PgAt.keep {H H' : Hp} (k : Keep H H') {v : V} : ∀ {g : Pg}, PgAt H v g → PgAt H' v g
  | .leaf _ _, ⟨t, q, e, h1, h2⟩ => ⟨t, q, e, k _ _ h1, h2.keep k⟩
  | .node _ _, ⟨t, q1, q2, e, h1, h2, h3⟩ => ⟨t, q1, q2, e, k _ _ h1, k _ _ h2, h3.keep k⟩
def EnAt (H : Hp) (e : Key × V) (q : Int × Pg) : Prop := e.1 = .inl q.1 ∧ PgAt H e.2 q.2
def DctAt (H : Hp) (d : Addr) (D : List (Int × Pg)) : Prop := ∃ es : List (Key × V), H d = some (.dK es) ∧ Paired (EnAt H) es D
theorem valV_of {H : Hp} {k : Int} : ∀ {es : List (Key × V)} {D : List (Int × Pg)}, Paired (EnAt H) es D → (lkp D k = none ∧ valV es (.inl k) = none) ∨ ∃ g v, lkp D k = some g ∧ valV es (.inl k) = some v ∧ PgAt H v g
  | _, _, .nil => .inl ⟨rfl, rfl⟩
  | e :: es, q :: D, .cons r rs => by
    obtain ⟨r1, r2⟩ := r
    by_cases c : q.1 = k
    · refine .inr ⟨q.2, e.2, ?_, ?_, r2⟩
      · unfold lkp
        rw [List.find?_cons_of_pos (by exact decide_eq_true c)]
        rfl
      · unfold valV
        rw [List.find?_cons_of_pos (by rw [r1, c]; exact decide_eq_true rfl)]
        rfl
    · have c1 : lkp (q :: D) k = lkp D k := by
        unfold lkp
        rw [List.find?_cons_of_neg (by simpa using c)]
      have c2 : valV (e :: es) (.inl k) = valV es (.inl k) := by
        unfold valV
        rw [List.find?_cons_of_neg (by rw [r1]; simpa using c)]
      rw [c1, c2]
      exact valV_of rs
theorem DctAt.put {H : Hp} {es : List (Key × V)} {D : List (Int × Pg)} {k : Int} {v : V} {g : Pg} (h : Paired (EnAt H) es D) (hn : lkp D k = none) (hv : PgAt H v g) : Paired (EnAt H) (putK es (.inl k) v) (D ++ [(k, g)]) := by
  have e : putK es (.inl k) v = es ++ [(.inl k, v)] := by
    unfold putK
    rw [if_neg]
    intro z
    obtain ⟨x, hx, hx2⟩ := List.any_eq_true.mp z
    obtain ⟨i, hi⟩ := List.getElem?_of_mem hx
    obtain ⟨q, hq, r1, _⟩ := pget1 h hi
    have hx3 := of_decide_eq_true hx2
    rw [r1] at hx3
    exact lkp_ne hn q (List.mem_of_getElem? hq) (by injection hx3)
  rw [e]
  exact paired_snoc ⟨rfl, hv⟩ h
theorem pr_ne {H : Hp} {a q : Addr} {xs : List V} {ps : List (Int × Int)} {is : List Int} (h : H a = some (.lst xs)) (hp : Paired (PrAt H) xs ps) (hq : H q = some (.lst (is.map V.int))) (ne : ps ≠ [] ∨ is ≠ []) : a ≠ q := fun e => by
  rw [e, hq] at h
  have e2 : xs = is.map V.int := by injection h with h; injection h with h; exact h.symm
  subst e2
  cases is with
  | nil =>
    cases hp
    rcases ne with ne | ne <;> exact ne rfl
  | cons i is =>
    cases hp with
    | cons r rs =>
      obtain ⟨t, e, _⟩ := r
      cases e
/-- all but four stay -/
def But4 (p r n d : Addr) (H H' : Hp) : Prop := ∀ b o, b ≠ p → b ≠ r → b ≠ n → b ≠ d → H b = some o → H' b = some o
theorem But4.refl (p r n d : Addr) (H : Hp) : But4 p r n d H H := fun _ _ _ _ _ _ e => e
theorem But4.trans {p r n d : Addr} {H H1 H2 : Hp} (a : But4 p r n d H H1) (b : But4 p r n d H1 H2) : But4 p r n d H H2 := fun c o h1 h2 h3 h4 e => b c o h1 h2 h3 h4 (a c o h1 h2 h3 h4 e)
theorem But4.same {p r n d : Addr} {H H1 H2 : Hp} (a : But4 p r n d H H1) (b : Same H1 H2) : But4 p r n d H H2 := fun c o h1 h2 h3 h4 e => b c o (a c o h1 h2 h3 h4 e)
theorem But4.new {p r n d q : Addr} {H H1 : Hp} {o : HO} (a : But4 p r n d H H1) (h : H1 q = none) : But4 p r n d H (upd H1 q o) := a.same (same_new h)
theorem But4.put {p r n d q : Addr} {H H1 : Hp} {o : HO} (a : But4 p r n d H H1) (h : q = p ∨ q = r ∨ q = n ∨ q = d) : But4 p r n d H (upd H1 q o) := fun c o h1 h2 h3 h4 e => by
  rw [upd_ne (by rintro rfl; rcases h with h | h | h | h <;> contradiction)]
  exact a c o h1 h2 h3 h4 e
theorem PotOk.put {H : Hp} {p q : Addr} {B : Int} {o : HO} (h : PotOk H p B) (e : p ≠ q) : PotOk (upd H q o) p B := by
  obtain ⟨x, y, c, h1, r⟩ := h
  exact ⟨x, y, c, by rw [upd_ne e]; exact h1, r⟩
theorem four {H : Hp} {p r n d q : Addr} {B : Int} {u : HO} {v w : HO} (hp : PotOk H p B) (h1 : H r = some u) (h2 : H n = some v) (h3 : H d = some w) (hq : H q = none) : q ≠ p ∧ q ≠ r ∧ q ≠ n ∧ q ≠ d := by
  obtain ⟨x, y, c, h0, _⟩ := hp
  exact ⟨(ne_of_none h0 hq).symm, (ne_of_none h1 hq).symm, (ne_of_none h2 hq).symm, (ne_of_none h3 hq).symm⟩
structure Dif (p r n d : Addr) : Prop where
  pr : p ≠ r
  pn : p ≠ n
  pd : p ≠ d
  rn : r ≠ n
  rd : r ≠ d
  nd : n ≠ d
/-- what is left: pairs, numbers, the last key -/
def RestAt (H : Hp) (p r n d : Addr) (ps : List (Int × Int)) (ns : List Int) (last : Int) : Prop :=
  ∃ a, H r = some (.lst [.ref a, .ref n, .int last]) ∧ PrsAt H a ps ∧ H n = some (.lst (ns.map V.int)) ∧ a ≠ p ∧ a ≠ r ∧ a ≠ n ∧ a ≠ d
/-- tuples stay where only these four change, none of which is one -/
theorem But4.keep {p r n d : Addr} {H H' : Hp} {B : Int} {ps : List (Int × Int)} {ns : List Int} {last : Int} {D : List (Int × Pg)} (b : But4 p r n d H H') (hp : PotOk H p B) (hr : RestAt H p r n d ps ns last) (hd : DctAt H d D) : Keep H H' := ⟨fun c u tu h => by
  obtain ⟨a, h1, _, h2, _⟩ := hr
  obtain ⟨es, h3, _⟩ := hd
  refine b c _ (tpb_no hp.noTup tu h) (fun z => ?_) (fun z => ?_) (fun z => ?_) h <;> subst z
  · rw [h1] at h; cases h; cases tu
  · rw [h2] at h; cases h; cases tu
  · rw [h3] at h; cases h; cases tu⟩
section
variable {P : Program} {w : World} {K : PySem.W.Frag} {mg : Str → Option Value} {base : Heap}
structure LaidIn (H : Hp) (l room : Nat) (s : Sh l) (p r n d : Addr) (ps : List (Int × Int)) (ns : List Int) (D : List (Int × Pg)) (last B : Int) : Prop where
  r3 : 3 ≤ room
  r8 : room ≤ 8
  pot : PotOk H p B
  bound : B + (pgsS l s : Int) < 2 ^ 39
  rest : RestAt H p r n d ps ns last
  dct : DctAt H d D
  dif : Dif p r n d
  ok : PrsOk ps
  above : Above ps last
  last0 : -1 ≤ last
  last9 : last ≤ 1000000000
  many : cntS l s ≤ ps.length
  numbers : pgsS l s ≤ ns.length
  nodup : ns.Nodup
  fresh : ∀ k ∈ ns, lkp D k = none
  few : ps.length ≤ 100000
  few2 : D.length + ns.length ≤ 100000
def sp_law_laid (N : Nat) : Sp := fun vs H Q _ => ∃ (l room : Nat) (top : Bool) (v : V) (s : Sh l) (p r n d : Addr) (ps : List (Int × Int)) (ns : List Int) (D : List (Int × Pg)) (last B : Int), vs = [.ref p, v, .ref r, .ref d] ∧ l < N ∧ WfSh room l top s ∧ ShAt H l v s ∧
  LaidIn H l room s p r n d ps ns D last B ∧
  ∀ (H' : Hp) (t : Tr l) (D' : List (Int × Pg)) (last' : Int), But4 p r n d H H' → PotOk H' p (B + (pgsS l s : Int) - 1) → RestAt H' p r n d (ps.drop (cntS l s)) (ns.drop (pgsS l s)) last' → DctAt H' d (D ++ D') → Gen l s t ps ns D D' last last' → Q (.int (num l t)) H'
end
end K30

namespace K30
open PySem PySem.Spec PyProof.Rows L2 RZ HX TR
theorem DctAt.get {H : Hp} {d : Addr} {D : List (Int × Pg)} (h : DctAt H d D) {k : Int} {g : Pg} (e : lkp D k = some g) : ∃ v, DGet H d (.int k) (some v) ∧ PgAt H v g := by
  obtain ⟨es, h1, h2⟩ := h
  rcases valV_of (k := k) h2 with ⟨z, _⟩ | ⟨g', v, z, hv, hg⟩
  · rw [z] at e
    cases e
  · rw [z] at e
    cases e
    exact ⟨v, hv ▸ DGet.k (k := .inl k) h1, hg⟩
theorem DctAt.same {H H' : Hp} {d : Addr} {D : List (Int × Pg)} (h : DctAt H d D) (s : Same H H') : DctAt H' d D := by
  obtain ⟨es, h1, h2⟩ := h
  exact ⟨es, s _ _ h1, paired_imp (fun _ _ (r : EnAt H _ _) => (⟨r.1, r.2.keep (Keep.of s)⟩ : EnAt _ _ _)) h2⟩
theorem DctAt.len {H : Hp} {d : Addr} {D : List (Int × Pg)} (h : DctAt H d D) : ∃ es : List (Key × V), H d = some (.dK es) ∧ es.length = D.length := by
  obtain ⟨es, h1, h2⟩ := h
  exact ⟨es, h1, Paired.length h2⟩
section
variable {P : Program} {w : World} {K : PySem.W.Frag} {mg : Str → Option Value} {base : Heap}
def sp_law_leaves (N : Nat) : Sp := fun vs H Q _ => ∃ (l : Nat) (t : Tr l) (d : Addr) (D : List (Int × Pg)), vs = [.ref d, .int (num l t)] ∧ l < N ∧ DctAt H d D ∧ Laid D l t ∧ (lvs l t).length ≤ 100000 ∧
  ∀ (H' : Hp) (a : Addr), Same H H' → H a = none → H' a = some (.lst ((lvs l t).map V.int)) → Q (.ref a) H'
end
end K30

namespace K30
open PySem PySem.Spec PyProof.Rows L2 RZ HX TR
theorem cut_from' {xs : List V} {n : Nat} : cutV xs (some (n : Int)) none = xs.drop n := by
  by_cases h : n ≤ xs.length
  · exact cut_from h
  · have e1 : HT.sIx xs.length 0 (some (n : Int)) = xs.length := by rw [HT.sIx_nat]; omega
    have e2 : HT.sIx xs.length xs.length none = xs.length := rfl
    unfold cutV
    rw [e1, e2, List.drop_of_length_le (by omega : xs.length ≤ n), List.drop_length, List.take_nil]
theorem map_at {α β : Type} {f : α → β} {xs : List α} {i : Nat} {y : β} (h : (xs.map f)[i]? = some y) : ∃ x, xs[i]? = some x ∧ y = f x := by
  rw [List.getElem?_map] at h
  cases c : xs[i]? with
  | none => rw [c] at h; cases h
  | some x => rw [c] at h; exact ⟨x, rfl, (Option.some.inj h).symm⟩
theorem DctAt.set {H : Hp} {k : Int} {v : V} {g : Pg} (hv : PgAt H v g) : ∀ {es : List (Key × V)} {D : List (Int × Pg)}, Paired (EnAt H) es D → Paired (EnAt H) (es.map fun kv => if kv.1 = .inl k then (kv.1, v) else kv) (setp D k g)
  | _, _, .nil => .nil
  | e :: es, q :: D, .cons r rs => by
    refine .cons ?_ (DctAt.set hv rs)
    obtain ⟨r1, r2⟩ := r
    show EnAt H (if e.1 = .inl k then (e.1, v) else e) (if q.1 = k then (q.1, g) else q)
    by_cases c : q.1 = k
    · rw [if_pos c, if_pos (by rw [r1, c])]
      exact ⟨r1, hv⟩
    · rw [if_neg c, if_neg (fun z => c (by rw [r1] at z; injection z))]
      exact ⟨r1, r2⟩
theorem putK_old {H : Hp} {es : List (Key × V)} {D : List (Int × Pg)} {k : Int} {v : V} {g : Pg} (h : Paired (EnAt H) es D) (hn : lkp D k = some g) : putK es (.inl k) v = es.map fun kv => if kv.1 = .inl k then (kv.1, v) else kv := by
  unfold putK
  rw [if_pos]
  obtain ⟨i, hi⟩ := List.getElem?_of_mem (lkp_mem hn)
  obtain ⟨e, he, r1, _⟩ := pget2 h hi
  exact List.any_eq_true.mpr ⟨e, List.mem_of_getElem? he, decide_eq_true r1⟩
theorem dct_keys {H : Hp} : ∀ {es : List (Key × V)} {D : List (Int × Pg)}, Paired (EnAt H) es D → ∃ ks : List (Int × Addr), es = ks.map HS.entK ∧ Paired (fun (k : Int × Addr) q => k.1 = q.1 ∧ PgAt H (.ref k.2) q.2) ks D
  | _, _, .nil => ⟨[], rfl, .nil⟩
  | (k, v) :: es, (n, g) :: D, .cons r rs => by
    obtain ⟨r1, r2⟩ := r
    obtain ⟨ks, e, h⟩ := dct_keys rs
    dsimp only at r1 r2
    subst r1
    have hv : ∃ a, v = .ref a := by
      cases g with
      | leaf ps nx => obtain ⟨t, _, e, _⟩ := r2; exact ⟨t, e⟩
      | node ks kids => obtain ⟨t, _, _, e, _⟩ := r2; exact ⟨t, e⟩
    obtain ⟨a, rfl⟩ := hv
    exact ⟨(n, a) :: ks, by rw [e]; rfl, .cons ⟨rfl, r2⟩ h⟩
def NumAt (H : Hp) (x : V) (q : Int × Pg) : Prop := ∃ t v, x = .ref t ∧ H t = some (.tup [.int q.1, v]) ∧ PgAt H v q.2
def TreeAt (H : Hp) (v : V) (room root : Int) (S : List (Int × Pg)) : Prop := ∃ a b o xs, v = .ref a ∧ H a = some (.tup [.int room, .int root, .ref b]) ∧ H b = some (.frz o (.tup xs)) ∧ o.dict = none ∧ Paired (NumAt H) xs S
theorem NumAt.keep {H H' : Hp} (k : Keep H H') {x : V} {q : Int × Pg} (h : NumAt H x q) : NumAt H' x q := by
  obtain ⟨t, v, e, h1, h2⟩ := h
  exact ⟨t, v, e, k _ _ h1, h2.keep k⟩
theorem TreeAt.same {H H' : Hp} (k : Same H H') {v : V} {room root : Int} {S : List (Int × Pg)} (h : TreeAt H v room root S) : TreeAt H' v room root S := by
  obtain ⟨a, b, o, xs, e, h1, h2, h3, h4⟩ := h
  exact ⟨a, b, o, xs, e, k _ _ h1, k _ _ h2, h3, paired_imp (fun _ _ r => NumAt.keep (Keep.of k) r) h4⟩
theorem TreeAt.but {H H' : Hp} {p : Addr} {B : Int} (k : But p H H') (hp : PotOk H p B) {v : V} {room root : Int} {S : List (Int × Pg)} (h : TreeAt H v room root S) : TreeAt H' v room root S := by
  obtain ⟨a, b, o, xs, e, h1, h2, h3, h4⟩ := h
  refine ⟨a, b, o, xs, e, hp.keep k _ _ h1, k _ _ (fun z => ?_) h2, h3, paired_imp (fun _ _ r => NumAt.keep (hp.keep k) r) h4⟩
  obtain ⟨x, y, c, h0, _⟩ := hp
  rw [z, h0] at h2
  cases h2
theorem erase_map {α β : Type} (f : α → β) : ∀ (l : List α) (k : Nat), (l.map f).eraseIdx k = (l.eraseIdx k).map f
  | [], _ => rfl
  | _ :: _, 0 => rfl
  | a :: l, k + 1 => by
    show f a :: (l.map f).eraseIdx k = f a :: (l.eraseIdx k).map f
    rw [erase_map f l k]
theorem seqk {k n : Nat} (h : k < n) : seqIndex? (k : Int) n = some k := by
  show (let j := if (k : Int) < 0 then (k : Int) + (n : Int) else (k : Int); if (decide (0 ≤ j) && decide (j < (n : Int))) = true then some j.toNat else none) = some k
  have e : ¬ (k : Int) < 0 := by omega
  simp only [if_neg e]
  rw [if_pos (by simp; omega), Int.toNat_natCast]
theorem erase_perm {α : Type} : ∀ {l : List α} {k : Nat} (h : k < l.length), (l[k] :: l.eraseIdx k).Perm l
  | a :: l, 0, _ => .refl _
  | a :: l, k + 1, h => (List.Perm.swap a _ _).trans (List.Perm.cons a (erase_perm (l := l) (k := k) (Nat.lt_of_succ_lt_succ h)))
theorem keys_eq {H : Hp} : ∀ {ks : List (Int × Addr)} {S : List (Int × Pg)}, Paired (fun (k : Int × Addr) q => k.1 = q.1 ∧ PgAt H (.ref k.2) q.2) ks S → ks.map (·.1) = S.map (·.1)
  | _, _, .nil => rfl
  | k :: ks, q :: S, .cons r rs => by
    rw [List.map_cons, List.map_cons, keys_eq rs, r.1]
theorem num_paired {H H' : Hp} (k : Keep H H') : ∀ {ps : List (Addr × Int × Addr)} {S : List (Int × Pg)}, Paired (fun (k : Int × Addr) q => k.1 = q.1 ∧ PgAt H (.ref k.2) q.2) (ps.map (·.2)) S → (∀ z ∈ ps, H' z.1 = some (.tup [.int z.2.1, .ref z.2.2])) →
    Paired (NumAt H') (ps.map fun z => V.ref z.1) S
  | [], [], .nil, _ => .nil
  | z :: ps, q :: S, .cons r rs, h => .cons ⟨z.1, .ref z.2.2, rfl, by rw [← r.1]; exact h z (List.mem_cons_self ..), r.2.keep k⟩ (num_paired k rs fun y hy => h y (List.mem_cons_of_mem _ hy))
/-- all but three stay -/
def But3 (p r n : Addr) (H H' : Hp) : Prop := ∀ b o, b ≠ p → b ≠ r → b ≠ n → H b = some o → H' b = some o
end K30

namespace K30
open PySem PySem.Spec PyProof.Rows L2 RZ HX TR
def Pg.isLeaf : Pg → Bool
  | .leaf _ _ => true
  | .node _ _ => false
def GoodPr (q : Int × Int) : Prop := 0 ≤ q.1 ∧ q.1 ≤ 1000000000 ∧ 0 ≤ q.2 ∧ q.2 ≤ 1000000000
def PgOk : Pg → Prop
  | .leaf ps nx => (∀ q ∈ ps, GoodPr q) ∧ ps.Pairwise (fun a b => a.1 < b.1) ∧ 0 ≤ nx ∧ nx ≤ 1000000 ∧ ps.length ≤ 1000
  | .node ks kids => ks.Pairwise (· < ·) ∧ (∀ k ∈ ks, 0 ≤ k ∧ k ≤ 1000000000) ∧ (∀ k ∈ kids, 1 ≤ k ∧ k ≤ 1000000) ∧ ks.length + 1 = kids.length ∧ kids.length ≤ 1000
theorem all_true {α : Type} (xs : List α) : (xs.map fun _ => true).all id = true := by
  rw [List.all_map]
  exact List.all_eq_true.mpr fun _ _ => rfl
theorem rep_true (n : Nat) : (List.replicate n true).all id = true := by
  refine List.all_eq_true.mpr fun x hx => ?_
  rw [(List.mem_replicate.mp hx).2]
  rfl
theorem rep_snoc (n : Nat) : (List.replicate n true).map V.bl ++ [V.bl true] = (List.replicate (n + 1) true).map V.bl := by
  rw [List.replicate_succ', List.map_append]
  rfl
section
variable {P : Program} {w : World} {K : PySem.W.Frag} {mg : Str → Option Value} {base : Heap}
def sp_is_whole : Sp := fun vs H Q _ => ∃ i : Int, vs = [.int i] ∧ Q (.bl true) H
theorem ok_is_whole (T : TX K mg) : FnOk P w K mg base CX0 1 (He.ga K "is_whole") T.fd_is_whole ["thing"] sp_is_whole := by
  refine T.F_is_whole.ok sc_is_whole (fun vs H Q E h => ?_) (fun cdv A outer st H vs Q E hr h => ?_)
  · obtain ⟨i, rfl, _⟩ := h
    rfl
  · obtain ⟨i, rfl, kq⟩ := h
    refine ⟨_, PSs.nox (pss_one (ps_ret (pe_and (pe_callB call_isi rfl T.n_isinstance (by decide +kernel) (pa_cons (pv 0) (pa_cons (pe_ty "int" T.n_int (by decide +kernel)) pa_nil))) (pe_one (pe_not (pe_callB call_isi rfl T.n_isinstance (by decide +kernel) (pa_cons (pv 0) (pa_cons (pe_ty "bool" T.n_bool (by decide +kernel)) pa_nil)))))))), ?_⟩
    refine ⟨_, rfl, _, _, .type "int", .type "int", true, rfl, .ty "int", .base (.int _), kit_ty (by decide +kernel), true, rfl, ?_⟩
    refine iteT ?_
    exact ⟨_, rfl, _, _, .type "int", .type "bool", false, rfl, .ty "bool", .base (.int _), kit_ty (by decide +kernel), _, rfl, kq⟩
def sp_is_between : Sp := fun vs H Q _ => ∃ i a b : Int, vs = [.int i, .int a, .int b] ∧ Q (.bl (decide (a ≤ i) && decide (i ≤ b))) H
theorem ok_is_between (T : TX K mg) : FnOk P w K mg base CX0 2 (He.ga K "is_between") T.fd_is_between ["thing", "low", "high"] sp_is_between := by
  have G_is_whole : FnOk P w K mg base CX0 1 (He.ga K "is_whole") T.fd_is_whole ["thing"] sp_is_whole := ok_is_whole T
  have b_is_whole := b_is_whole T
  refine T.F_is_between.ok sc_is_between (fun vs H Q E h => ?_) (fun cdv A outer st H vs Q E hr h => ?_)
  · obtain ⟨i, a, b, rfl, _⟩ := h
    rfl
  · obtain ⟨i, a, b, rfl, kq⟩ := h
    refine ⟨_, PSs.nox (pss_one (ps_ret (pe_and (pe_call G_is_whole (hr.mono (by first | decide | omega)) rfl T.g_is_whole T.F_is_whole.kp b_is_whole .nil pass0 (pa_cons (pv 0) pa_nil)) (pe_one (pe_chain op_le op_le (pv 1) (pv 0) (pv 2)))))), ?_⟩
    refine ⟨_, rfl, i, rfl, true, rfl, ?_⟩
    refine iteT ?_
    refine ⟨_, rfl, _, rfl, _, _, rfl, rfl, _, rfl, ?_⟩
    cases c : decide (a ≤ i) with
    | true =>
      rw [c] at kq
      exact iteT ⟨_, rfl, _, _, rfl, rfl, kq⟩
    | false =>
      rw [c] at kq
      exact iteF kq
def sp_is_row : Sp := fun vs H Q _ => ∃ (a : Addr) (xs : List V) (n : Int), vs = [.ref a, .int n] ∧ H a = some (.tup xs) ∧ Q (.bl (decide ((xs.length : Int) = n))) H
theorem ok_is_row (T : TX K mg) : FnOk P w K mg base CX0 1 (He.ga K "is_row") T.fd_is_row ["thing", "many"] sp_is_row := by
  refine T.F_is_row.ok sc_is_row (fun vs H Q E h => ?_) (fun cdv A outer st H vs Q E hr h => ?_)
  · obtain ⟨a, xs, n, rfl, _⟩ := h
    rfl
  · obtain ⟨a, xs, n, rfl, ha, kq⟩ := h
    refine ⟨_, PSs.nox (pss_one (ps_ret (pe_and (pe_callB call_isi rfl T.n_isinstance (by decide +kernel) (pa_cons (pv 0) (pa_cons (pe_ty "tuple" T.n_tuple (by decide +kernel)) pa_nil))) (pe_one (pe_cmpR op_eq (pe_callB call_len_seq rfl T.n_len PySem.boot_len (pa_cons (pv 0) pa_nil)) (pv 1) (nomark _)))))), ?_⟩
    refine ⟨_, rfl, _, _, .type "tuple", .type "tuple", true, rfl, .ty "tuple", .base (.tup ha), kit_ty (by decide +kernel), true, rfl, ?_⟩
    refine iteT ?_
    refine ⟨_, rfl, a, _, rfl, .inr (SqT.of ha), _, rfl, rfl, ?_⟩
    have e : decide (V.int (xs.length : Int) = V.int n) = decide ((xs.length : Int) = n) := by
      by_cases c : (xs.length : Int) = n
      · rw [c]
        simp
      · rw [decide_eq_false c]
        exact decide_eq_false fun z => c (by injection z)
    rw [e]
    exact kq
def sp_rng (lo hi : Int) : Sp := fun vs H Q _ => ∃ i : Int, vs = [.int i] ∧ Q (.bl (decide (lo ≤ i) && decide (i ≤ hi))) H
theorem ok_is_key (T : TX K mg) : FnOk P w K mg base CX0 3 (He.ga K "is_key") T.fd_is_key ["thing"] (sp_rng 0 1000000000) := by
  have G_is_between : FnOk P w K mg base CX0 2 (He.ga K "is_between") T.fd_is_between ["thing", "low", "high"] sp_is_between := ok_is_between T
  have b_is_between := b_is_between T
  refine T.F_is_key.ok sc_is_key (fun vs H Q E h => ?_) (fun cdv A outer st H vs Q E hr h => ?_)
  · obtain ⟨i, rfl, _⟩ := h
    rfl
  · obtain ⟨i, rfl, kq⟩ := h
    exact ⟨_, PSs.nox (pss_one (ps_ret (pe_call G_is_between (hr.mono (by first | decide | omega)) rfl T.g_is_between T.F_is_between.kp b_is_between .nil pass0 (pa_cons (pv 0) (pa_cons pe_int (pa_cons (pe_gint T.g_GREATEST) pa_nil)))))), _, rfl, i, 0, 1000000000, rfl, kq⟩
theorem ok_is_value (T : TX K mg) : FnOk P w K mg base CX0 3 (He.ga K "is_value") T.fd_is_value ["thing"] (sp_rng 0 1000000000) := by
  have G_is_between : FnOk P w K mg base CX0 2 (He.ga K "is_between") T.fd_is_between ["thing", "low", "high"] sp_is_between := ok_is_between T
  have b_is_between := b_is_between T
  refine T.F_is_value.ok sc_is_value (fun vs H Q E h => ?_) (fun cdv A outer st H vs Q E hr h => ?_)
  · obtain ⟨i, rfl, _⟩ := h
    rfl
  · obtain ⟨i, rfl, kq⟩ := h
    exact ⟨_, PSs.nox (pss_one (ps_ret (pe_call G_is_between (hr.mono (by first | decide | omega)) rfl T.g_is_between T.F_is_between.kp b_is_between .nil pass0 (pa_cons (pv 0) (pa_cons pe_int (pa_cons (pe_gint T.g_GREATEST) pa_nil)))))), _, rfl, i, 0, 1000000000, rfl, kq⟩
theorem ok_is_room (T : TX K mg) : FnOk P w K mg base CX0 3 (He.ga K "is_room") T.fd_is_room ["thing"] (sp_rng 3 8) := by
  have G_is_between : FnOk P w K mg base CX0 2 (He.ga K "is_between") T.fd_is_between ["thing", "low", "high"] sp_is_between := ok_is_between T
  have b_is_between := b_is_between T
  refine T.F_is_room.ok sc_is_room (fun vs H Q E h => ?_) (fun cdv A outer st H vs Q E hr h => ?_)
  · obtain ⟨i, rfl, _⟩ := h
    rfl
  · obtain ⟨i, rfl, kq⟩ := h
    exact ⟨_, PSs.nox (pss_one (ps_ret (pe_call G_is_between (hr.mono (by first | decide | omega)) rfl T.g_is_between T.F_is_between.kp b_is_between .nil pass0 (pa_cons (pv 0) (pa_cons (pe_gint T.g_LEAST_ROOM) (pa_cons (pe_gint T.g_GREATEST_ROOM) pa_nil)))))), _, rfl, i, 3, 8, rfl, kq⟩
theorem ok_is_page_number (T : TX K mg) : FnOk P w K mg base CX0 3 (He.ga K "is_page_number") T.fd_is_page_number ["thing"] (sp_rng 1 1000000) := by
  have G_is_between : FnOk P w K mg base CX0 2 (He.ga K "is_between") T.fd_is_between ["thing", "low", "high"] sp_is_between := ok_is_between T
  have b_is_between := b_is_between T
  refine T.F_is_page_number.ok sc_is_page_number (fun vs H Q E h => ?_) (fun cdv A outer st H vs Q E hr h => ?_)
  · obtain ⟨i, rfl, _⟩ := h
    rfl
  · obtain ⟨i, rfl, kq⟩ := h
    exact ⟨_, PSs.nox (pss_one (ps_ret (pe_call G_is_between (hr.mono (by first | decide | omega)) rfl T.g_is_between T.F_is_between.kp b_is_between .nil pass0 (pa_cons (pv 0) (pa_cons pe_int (pa_cons (pe_gint T.g_LAST_PAGE) pa_nil)))))), _, rfl, i, 1, 1000000, rfl, kq⟩
def sp_half_of : Sp := fun vs H Q _ => ∃ n : Nat, vs = [.int (n : Int)] ∧ Q (.int (((n + 1) / 2 : Nat) : Int)) H
theorem ok_half_of (T : TX K mg) : FnOk P w K mg base CX0 1 (He.ga K "half_of") T.fd_half_of ["room"] sp_half_of := by
  refine T.F_half_of.ok sc_half_of (fun vs H Q E h => ?_) (fun cdv A outer st H vs Q E hr h => ?_)
  · obtain ⟨n, rfl, _⟩ := h
    rfl
  · obtain ⟨n, rfl, kq⟩ := h
    refine ⟨_, PSs.nox (pss_one (ps_ret (pe_op op_fdivW (pe_op op_add (pv 0) pe_int) pe_int))), _, rfl, _, _, rfl, rfl, _, _, rfl, rfl, ⟨by decide, by decide⟩, ?_⟩
    have e : (((n + 1) / 2 : Nat) : Int) = ((n : Int) + 1) / 2 := by omega
    rw [e] at kq
    exact kq
def sp_is_pair : Sp := fun vs H Q _ => ∃ (x : V) (q : Int × Int), vs = [x] ∧ PrAt H x q ∧ GoodPr q ∧ Q (.bl true) H
theorem ok_is_pair (T : TX K mg) : FnOk P w K mg base CX0 4 (He.ga K "is_pair") T.fd_is_pair ["thing"] sp_is_pair := by
  have G_is_row : FnOk P w K mg base CX0 1 (He.ga K "is_row") T.fd_is_row ["thing", "many"] sp_is_row := ok_is_row T
  have b_is_row := b_is_row T
  have G_is_key : FnOk P w K mg base CX0 3 (He.ga K "is_key") T.fd_is_key ["thing"] (sp_rng 0 1000000000) := ok_is_key T
  have b_is_key := b_is_key T
  have G_is_value : FnOk P w K mg base CX0 3 (He.ga K "is_value") T.fd_is_value ["thing"] (sp_rng 0 1000000000) := ok_is_value T
  have b_is_value := b_is_value T
  refine T.F_is_pair.ok sc_is_pair (fun vs H Q E h => ?_) (fun cdv A outer st H vs Q E hr h => ?_)
  · obtain ⟨x, q, rfl, _⟩ := h
    rfl
  · obtain ⟨x, q, rfl, ⟨t, rfl, ht⟩, ⟨g1, g2, g3, g4⟩, kq⟩ := h
    refine ⟨_, PSs.nox (pss_one (ps_ret (pe_and (pe_call G_is_row (hr.mono (by first | decide | omega)) rfl T.g_is_row T.F_is_row.kp b_is_row .nil pass0 (pa_cons (pv 0) (pa_cons pe_int pa_nil))) (pe_and (pe_call G_is_key (hr.mono (by first | decide | omega)) rfl T.g_is_key T.F_is_key.kp b_is_key .nil pass0 (pa_cons (pe_ix ix_tup (pv 0) pe_int (fun _ _ => rfl)) pa_nil)) (pe_one (pe_call G_is_value (hr.mono (by first | decide | omega)) rfl T.g_is_value T.F_is_value.kp b_is_value .nil pass0 (pa_cons (pe_ix ix_tup (pv 0) pe_int (fun _ _ => rfl)) pa_nil))))))), ?_⟩
    refine ⟨_, rfl, t, _, _, rfl, ht, true, rfl, iteT ?_⟩
    refine ⟨_, rfl, t, _, _, _, rfl, rfl, SqT.of ht, rfl, q.1, rfl, ?_⟩
    rw [decide_eq_true g1, decide_eq_true g2]
    refine ⟨true, rfl, iteT ?_⟩
    refine ⟨_, rfl, t, _, _, _, rfl, rfl, SqT.of ht, rfl, q.2, rfl, ?_⟩
    rw [decide_eq_true g3, decide_eq_true g4]
    exact kq
end
end K30

namespace K30
open PySem PySem.Spec PyProof.Rows L2 RZ HX TR
theorem drop1 {xs : List V} (h : xs ≠ []) : ¬ (HT.sIx xs.length 0 (some 1) = 0 ∧ HT.sIx xs.length xs.length none = xs.length) := fun z => by
  have e : HT.sIx xs.length 0 (some ((1 : Nat) : Int)) = min 1 xs.length := HT.sIx_nat _ _ _
  have : xs.length ≠ 0 := fun q => h (List.eq_nil_of_length_eq_zero q)
  have z1 : HT.sIx xs.length 0 (some ((1 : Nat) : Int)) = 0 := z.1
  omega
section
variable {P : Program} {w : World} {K : PySem.W.Frag} {mg : Str → Option Value} {base : Heap}
def sp_are_pairs : Sp := fun vs H Q _ => ∃ (a : Addr) (ps : List (Int × Int)), vs = [.ref a] ∧ PrT H a ps ∧ (∀ q ∈ ps, GoodPr q) ∧ ps.length ≤ 1000 ∧ ∀ H', Same H H' → Q (.bl true) H'
theorem ok_are_pairs (T : TX K mg) : FnOk P w K mg base CX0 5 (He.ga K "are_pairs") T.fd_are_pairs ["thing"] sp_are_pairs := by
  have G_is_pair : FnOk P w K mg base CX0 4 (He.ga K "is_pair") T.fd_is_pair ["thing"] sp_is_pair := ok_is_pair T
  have b_is_pair := b_is_pair T
  refine T.F_are_pairs.ok sc_are_pairs (fun vs H Q E h => ?_) (fun cdv A outer st H vs Q E hr h => ?_)
  · obtain ⟨a, ps, rfl, _⟩ := h
    rfl
  · obtain ⟨a, ps, rfl, ⟨xs, ha, hp⟩, hg, hl, kq⟩ := h
    refine ⟨_, PSs.nox (pss_one (ps_ret (pe_and (pe_callB call_isi rfl T.n_isinstance (by decide +kernel) (pa_cons (pv 0) (pa_cons (pe_ty "tuple" T.n_tuple (by decide +kernel)) pa_nil))) (pe_one (pe_callB (cr_all rfl) rfl T.n_all (by decide +kernel) (pa_cons (pe_lc (own := [("pair", 1)]) (g := gName 1) (tt := tYes) rfl sc_are_pairs.nd (pi_tup (pv 0)) (blkOk_by (own := [("pair", 1)]) (N := ["thing", "pair"]) (sc := defScope s_are_pairs) (by decide +kernel)) (fun _ _ _ _ _ => (pg_name (i := 1) sc_are_pairs.nd rfl (Or.inl rfl))) (fun _ _ _ _ _ => pts_nil) (fun _ _ _ _ _ => (pe_call G_is_pair (hr.mono (by first | decide | omega)) rfl T.g_is_pair T.F_is_pair.kp b_is_pair .nil pass0 (pa_cons (pv 1) pa_nil)))) pa_nil)))))), ?_⟩
    refine ⟨_, rfl, _, _, .type "tuple", .type "tuple", true, rfl, .ty "tuple", ha.ty, kit_ty (by decide +kernel), true, rfl, iteT ?_⟩
    refine ⟨_, rfl, a, rfl, ⟨xs, ha.sq⟩, fun D hD => ?_⟩
    have hxl := Paired.length hp
    refine lc_it walk_tup (fun i H' => Same H H' ∧ H' D = some (.lst ((List.replicate i true).map V.bl))) ⟨same_new hD, upd_same⟩ (fun i H' _ z => (ha.same z.1).sq) ?_ ?_
    · rintro i x H3 H4 hi ⟨s3, hD3⟩ ⟨rfl, hx⟩
      obtain ⟨q, hq, hxq⟩ := pget1 hp hx
      refine ⟨rfl, ?_⟩
      dsimp only [tYes]
      rw [if_pos rfl]
      refine ⟨_, rfl, x, q, rfl, hxq.keep (Keep.of s3), hg q (List.mem_of_getElem? hq), _, hD3, ?_, same_upd s3 hD, ?_⟩
      · rw [List.length_map, List.length_replicate]
        exact Nat.lt_of_le_of_lt (by omega : i ≤ 1000) (by decide)
      · rw [upd_same, rep_snoc]
    · rintro H3 ⟨s3, hD3⟩
      refine ⟨D, _, rfl, SqL.of hD3, ?_⟩
      rw [rep_true]
      exact kq H3 s3
def sp_are_rising : Sp := fun vs H Q _ => ∃ (a : Addr) (ns : List Int), vs = [.ref a] ∧ (H a = some (.lst (ns.map V.int)) ∨ H a = some (.tup (ns.map V.int))) ∧ ns.Pairwise (· < ·) ∧ ns.length ≤ 1000 ∧ ∀ H', Same H H' → Q (.bl true) H'
theorem rise_at {ns : List Int} (h : ns.Pairwise (· < ·)) {i : Nat} {x y : V} (e1 : (ns.map V.int)[i]? = some x) (e2 : ((ns.map V.int).drop 1)[i]? = some y) : ∃ a b : Int, x = .int a ∧ y = .int b ∧ a < b := by
  obtain ⟨a, ha, rfl⟩ := map_at e1
  rw [← List.map_drop] at e2
  obtain ⟨b, hb, rfl⟩ := map_at e2
  rw [List.getElem?_drop] at hb
  obtain ⟨h1, h2⟩ := List.getElem?_eq_some_iff.mp ha
  obtain ⟨h3, h4⟩ := List.getElem?_eq_some_iff.mp hb
  exact ⟨a, b, rfl, rfl, by rw [← h2, ← h4]; exact List.pairwise_iff_getElem.mp h _ _ h1 h3 (by omega)⟩
theorem ok_are_rising (T : TX K mg) : FnOk P w K mg base CX0 1 (He.ga K "are_rising") T.fd_are_rising ["things"] sp_are_rising := by
  refine T.F_are_rising.ok sc_are_rising (fun vs H Q E h => ?_) (fun cdv A outer st H vs Q E hr h => ?_)
  · obtain ⟨a, ns, rfl, _⟩ := h
    rfl
  · obtain ⟨a, ns, rfl, ha, hp, hl, kq⟩ := h
    refine ⟨_, PSs.nox (pss_one (ps_ret (pe_callB (cr_all rfl) rfl T.n_all (by decide +kernel) (pa_cons (pe_lc (own := [("one", 1), ("other", 2)]) (g := gTup K 2 (gCons (gName 1) (gCons (gName 2) gNil))) (tt := tYes) rfl sc_are_rising.nd (pi_zipA rfl T.n_zip (pa_cons (pv 0) (pa_cons (pe_slice RU.sl_seq (pv 0) (po_some pe_int) po_none) pa_nil))) (blkOk_by (own := [("one", 1), ("other", 2)]) (N := ["things", "one", "other"]) (sc := defScope s_are_rising) (by decide +kernel)) (fun _ _ _ _ _ => (pg_tup rfl (pgs_cons (pg_name (i := 1) sc_are_rising.nd rfl (Or.inl rfl)) (pgs_cons (pg_name (i := 2) sc_are_rising.nd rfl (Or.inl rfl)) pgs_nil)))) (fun _ _ _ _ _ => pts_nil) (fun _ _ _ _ _ => (pe_cmpR op_lt (pv 1) (pv 2) (nomark _)))) pa_nil)))), ?_⟩
    have ec : cutV (ns.map V.int) (some 1) none = (ns.map V.int).drop 1 := cut_from' (n := 1)
    have lz : ns.length - 1 = min (ns.map V.int).length ((ns.map V.int).drop 1).length := by
      rw [List.length_drop, List.length_map]
      omega
    refine ⟨_, rfl, _, rfl, 1, rfl, ?_⟩
    rcases ha with ha | ha
    · refine .inl ⟨a, _, rfl, SqL.of ha, fun b hb => ?_⟩
      rw [ec]
      have nab := ne_of_none ha hb
      have s1 : Same H (upd H b (.lst ((ns.map V.int).drop 1))) := same_new hb
      have hb1 : upd H b (.lst ((ns.map V.int).drop 1)) b = some (.lst ((ns.map V.int).drop 1)) := upd_same
      generalize upd H b (.lst ((ns.map V.int).drop 1)) = H1 at s1 hb1
      refine ⟨a, b, _, _, rfl, .inl ⟨SqL.of (s1 _ _ ha), SqL.of hb1, fun D hD => ?_⟩⟩
      refine lc_it (walk_zip lz) (fun i H' => Same H1 H' ∧ H' D = some (.lst ((List.replicate i true).map V.bl))) ⟨same_new hD, upd_same⟩ (fun i H' _ z => ⟨SqL.of (z.1 _ _ (s1 _ _ ha)), SqL.of (z.1 _ _ hb1)⟩) ?_ ?_
      · rintro i x H3 H4 hi ⟨s3, hD3⟩ ⟨t, x1, x2, rfl, ht, rfl, e1, e2⟩
        obtain ⟨y1, y2, rfl, rfl, hlt⟩ := rise_at hp e1 e2
        have nDt := ne_of_none hD3 ht
        refine ⟨t, _, rfl, SqT.of upd_same, rfl, _, _, rfl, _, _, rfl, rfl, rfl, ?_⟩
        dsimp only [tYes]
        rw [if_pos rfl]
        refine ⟨_, rfl, _, rfl, _, _, rfl, rfl, _, same_new ht _ _ hD3, ?_, same_upd (s3.trans (same_new ht)) hD, ?_⟩
        · rw [List.length_map, List.length_replicate]
          exact Nat.lt_of_le_of_lt (by omega : i ≤ 1000) (by decide)
        · rw [upd_same, ← rep_snoc]
          show some (HO.lst (_ ++ [V.bl (decide (y1 < y2))])) = _
          rw [decide_eq_true hlt]
      · rintro H3 ⟨s3, hD3⟩
        refine ⟨D, _, rfl, SqL.of hD3, ?_⟩
        rw [rep_true]
        exact kq H3 (s1.trans s3)
    · have tail : ∀ (b : Addr) (H1 : Hp), Same H H1 → H1 b = some (.tup ((ns.map V.int).drop 1)) → ∀ D, H1 D = none → _ := fun b H1 s1 hb1 D hD =>
        lc_it (g := gTup K 2 (gCons (gName 1) (gCons (gName 2) gNil))) (tt := tYes) (te := tOp (rI0 fun i j => .bl (decide (i < j))) (tVar 1) (tVar 2)) (vs := [1, 2]) (σ := [some (.ref a), none, none]) (D := D) (H1 := H1) (RU.walk_zipT (K := K) (a := a) (b := b) lz)
          (Qd := fun H' => tNil [some (.ref a), none, none] H' fun xs H2 => rAll K (.ref D :: xs) H2 Q)
          (fun i H' => Same H1 H' ∧ H' D = some (.lst ((List.replicate i true).map V.bl))) ⟨same_new hD, upd_same⟩ (fun i H' _ z => ⟨SqT.of (z.1 _ _ (s1 _ _ ha)), SqT.of (z.1 _ _ hb1)⟩) (by
            rintro i x H3 H4 hi ⟨s3, hD3⟩ ⟨t, x1, x2, rfl, ht, rfl, e1, e2⟩
            obtain ⟨y1, y2, rfl, rfl, hlt⟩ := rise_at hp e1 e2
            have nDt := ne_of_none hD3 ht
            refine ⟨t, _, rfl, SqT.of upd_same, rfl, _, _, rfl, _, _, rfl, rfl, rfl, ?_⟩
            dsimp only [tYes]
            rw [if_pos rfl]
            refine ⟨_, rfl, _, rfl, _, _, rfl, rfl, _, same_new ht _ _ hD3, ?_, same_upd (s3.trans (same_new ht)) hD, ?_⟩
            · rw [List.length_map, List.length_replicate]
              exact Nat.lt_of_le_of_lt (by omega : i ≤ 1000) (by decide)
            · rw [upd_same, ← rep_snoc]
              show some (HO.lst (_ ++ [V.bl (decide (y1 < y2))])) = _
              rw [decide_eq_true hlt]) (by
            rintro H3 ⟨s3, hD3⟩
            refine ⟨D, _, rfl, SqL.of hD3, ?_⟩
            rw [rep_true]
            exact kq H3 (s1.trans s3))
      refine .inr ⟨a, _, rfl, SqT.of ha, fun z => ?_, fun z b hb => ?_⟩
      · have e0 : (ns.map V.int) = [] := Classical.byContradiction fun q => drop1 q z
        refine ⟨a, a, _, _, rfl, .inr ⟨SqT.of ha, SqT.of ha, fun D hD => ?_⟩⟩
        exact tail a H (Same.refl H) (by rw [e0] at ha ⊢; exact ha) D hD
      · rw [ec]
        refine ⟨a, b, _, _, rfl, .inr ⟨SqT.of (same_new hb _ _ ha), SqT.of upd_same, fun D hD => ?_⟩⟩
        exact tail b _ (same_new hb) upd_same D hD
def sp_are_rising_pairs : Sp := fun vs H Q _ => ∃ (a : Addr) (ps : List (Int × Int)), vs = [.ref a] ∧ PrT H a ps ∧ (∀ q ∈ ps, GoodPr q) ∧ ps.Pairwise (fun a b => a.1 < b.1) ∧ ps.length ≤ 1000 ∧ ∀ H', Same H H' → Q (.bl true) H'
theorem ok_are_rising_pairs (T : TX K mg) : FnOk P w K mg base CX0 6 (He.ga K "are_rising_pairs") T.fd_are_rising_pairs ["thing"] sp_are_rising_pairs := by
  have G_are_pairs : FnOk P w K mg base CX0 5 (He.ga K "are_pairs") T.fd_are_pairs ["thing"] sp_are_pairs := ok_are_pairs T
  have b_are_pairs := b_are_pairs T
  have G_are_rising : FnOk P w K mg base CX0 1 (He.ga K "are_rising") T.fd_are_rising ["things"] sp_are_rising := ok_are_rising T
  have b_are_rising := b_are_rising T
  refine T.F_are_rising_pairs.ok sc_are_rising_pairs (fun vs H Q E h => ?_) (fun cdv A outer st H vs Q E hr h => ?_)
  · obtain ⟨a, ps, rfl, _⟩ := h
    rfl
  · obtain ⟨a, ps, rfl, hT, hg, hp, hl, kq⟩ := h
    refine ⟨_, PSs.nox (pss_one (ps_ret (pe_and (pe_call G_are_pairs (hr.mono (by first | decide | omega)) rfl T.g_are_pairs T.F_are_pairs.kp b_are_pairs .nil pass0 (pa_cons (pv 0) pa_nil)) (pe_one (pe_call G_are_rising (hr.mono (by first | decide | omega)) rfl T.g_are_rising T.F_are_rising.kp b_are_rising .nil pass0 (pa_cons (pe_lc (own := [("pair", 1)]) (g := gName 1) (tt := tYes) rfl sc_are_rising_pairs.nd (pi_tup (pv 0)) (blkOk_by (own := [("pair", 1)]) (N := ["thing", "pair"]) (sc := defScope s_are_rising_pairs) (by decide +kernel)) (fun _ _ _ _ _ => (pg_name (i := 1) sc_are_rising_pairs.nd rfl (Or.inl rfl))) (fun _ _ _ _ _ => pts_nil) (fun _ _ _ _ _ => (pe_ix (ixt K) (pv 1) pe_int (fun _ _ => rfl)))) pa_nil)))))), ?_⟩
    refine ⟨_, rfl, a, ps, rfl, hT, hg, hl, fun H1 s1 => ⟨true, rfl, iteT ?_⟩⟩
    obtain ⟨xs, ha, hpx⟩ := hT.keep (Keep.of s1)
    have hxl := Paired.length hpx
    refine ⟨_, rfl, a, rfl, ⟨xs, ha.sq⟩, fun D hD => ?_⟩
    refine lc_it walk_tup (fun i H' => Same H1 H' ∧ H' D = some (.lst (((ps.take i).map (·.1)).map V.int))) ⟨same_new hD, upd_same⟩ (fun i H' _ z => (ha.same z.1).sq) ?_ ?_
    · rintro i x H3 H4 hi ⟨s3, hD3⟩ ⟨rfl, hx⟩
      obtain ⟨q, hq, t, rfl, ht⟩ := pget1 hpx hx
      refine ⟨rfl, ?_⟩
      dsimp only [tYes]
      rw [if_pos rfl]
      refine ⟨_, rfl, t, _, _, _, rfl, rfl, SqT.of (s3 _ _ ht), rfl, _, hD3, ?_, same_upd s3 hD, ?_⟩
      · rw [List.length_map, List.length_map, List.length_take]
        exact Nat.lt_of_le_of_lt (by omega : _ ≤ 1000) (by decide)
      · rw [upd_same, take_more hq, List.map_append, List.map_append]
        rfl
    · rintro H3 ⟨s3, hD3⟩
      rw [hxl, List.take_length] at hD3
      refine ⟨D, ps.map (·.1), rfl, .inl hD3, ?_, by rw [List.length_map]; exact hl, fun H5 s5 => kq H5 ((s1.trans s3).trans s5)⟩
      exact List.pairwise_map.mpr hp
end
end K30

namespace K30
open PySem PySem.Spec PyProof.Rows L2 RZ HX TR
/-- the text that stands first in a page -/
def Pg.name : Pg → Str
  | .leaf _ _ => "leaf"
  | .node _ _ => "node"
section
variable {P : Program} {w : World} {K : PySem.W.Frag} {mg : Str → Option Value} {base : Heap}
def sp_is_leaf : Sp := fun vs H Q _ => ∃ (v : V) (g : Pg), vs = [v] ∧ PgAt H v g ∧ PgOk g ∧ ∀ H', Same H H' → Q (.bl (Pg.isLeaf g)) H'
theorem ok_is_leaf (T : TX K mg) : FnOk P w K mg base CX0 7 (He.ga K "is_leaf") T.fd_is_leaf ["thing"] sp_is_leaf := by
  have G_is_row : FnOk P w K mg base CX0 1 (He.ga K "is_row") T.fd_is_row ["thing", "many"] sp_is_row := ok_is_row T
  have b_is_row := b_is_row T
  have G_are_rising_pairs : FnOk P w K mg base CX0 6 (He.ga K "are_rising_pairs") T.fd_are_rising_pairs ["thing"] sp_are_rising_pairs := ok_are_rising_pairs T
  have b_are_rising_pairs := b_are_rising_pairs T
  have G_is_between : FnOk P w K mg base CX0 2 (He.ga K "is_between") T.fd_is_between ["thing", "low", "high"] sp_is_between := ok_is_between T
  have b_is_between := b_is_between T
  refine T.F_is_leaf.ok sc_is_leaf (fun vs H Q E h => ?_) (fun cdv A outer st H vs Q E hr h => ?_)
  · obtain ⟨v, g, rfl, _⟩ := h
    rfl
  · obtain ⟨v, g, rfl, hv, hg, kq⟩ := h
    refine ⟨_, PSs.nox (pss_cons (ps_if (PW.pt (pw_or (pt_not (pt_val (pe_call G_is_row (hr.mono (by first | decide | omega)) rfl T.g_is_row T.F_is_row.kp b_is_row .nil pass0 (pa_cons (pv 0) (pa_cons pe_int pa_nil))))) (pw_or1 (pt_cmpR op_ne (pe_ix ix_tup (pv 0) pe_int (fun _ _ => rfl)) pe_str (nomark _)))))
 (pss_one (ps_ret pe_bl))
 pss_nil)
 (pss_one (ps_ret (pe_and (pe_call G_are_rising_pairs (hr.mono (by first | decide | omega)) rfl T.g_are_rising_pairs T.F_are_rising_pairs.kp b_are_rising_pairs .nil pass0 (pa_cons (pe_ix ix_tup (pv 0) pe_int (fun _ _ => rfl)) pa_nil)) (pe_one (pe_call G_is_between (hr.mono (by first | decide | omega)) rfl T.g_is_between T.F_is_between.kp b_is_between .nil pass0 (pa_cons (pe_ix ix_tup (pv 0) pe_int (fun _ _ => rfl)) (pa_cons pe_int (pa_cons (pe_gint T.g_LAST_PAGE) pa_nil))))))))), ?_⟩
    cases g with
    | leaf ps nx =>
      obtain ⟨t, q, rfl, ht, hT⟩ := hv
      obtain ⟨g1, g2, g3, g4, g5⟩ := hg
      refine ⟨_, rfl, t, _, _, rfl, ht, true, rfl, iteF ?_⟩
      refine ⟨_, rfl, t, _, _, _, rfl, rfl, SqT.of ht, rfl, rfl, _, rfl, iteF ?_⟩
      refine ⟨_, rfl, t, _, _, _, rfl, rfl, SqT.of ht, rfl, q, ps, rfl, hT, g1, g2, g5, fun H1 s1 => ⟨true, rfl, iteT ?_⟩⟩
      refine ⟨_, rfl, t, _, _, _, rfl, rfl, SqT.of (s1 _ _ ht), rfl, nx, 0, 1000000, rfl, ?_⟩
      rw [decide_eq_true g3, decide_eq_true g4]
      exact kq H1 s1
    | node ks kids =>
      obtain ⟨t, q1, q2, rfl, ht, _, _⟩ := hv
      refine ⟨_, rfl, t, _, _, rfl, ht, true, rfl, iteF ?_⟩
      refine ⟨_, rfl, t, _, _, _, rfl, rfl, SqT.of ht, rfl, rfl, _, rfl, iteT ?_⟩
      exact kq H (Same.refl H)
def sp_is_node : Sp := fun vs H Q _ => ∃ (v : V) (g : Pg), vs = [v] ∧ PgAt H v g ∧ PgOk g ∧ Pg.isLeaf g = false ∧ ∀ H', Same H H' → Q (.bl true) H'
theorem ok_is_node (T : TX K mg) : FnOk P w K mg base CX0 4 (He.ga K "is_node") T.fd_is_node ["thing"] sp_is_node := by
  have G_is_row : FnOk P w K mg base CX0 1 (He.ga K "is_row") T.fd_is_row ["thing", "many"] sp_is_row := ok_is_row T
  have b_is_row := b_is_row T
  have G_are_rising : FnOk P w K mg base CX0 1 (He.ga K "are_rising") T.fd_are_rising ["things"] sp_are_rising := ok_are_rising T
  have b_are_rising := b_are_rising T
  have G_is_key : FnOk P w K mg base CX0 3 (He.ga K "is_key") T.fd_is_key ["thing"] (sp_rng 0 1000000000) := ok_is_key T
  have b_is_key := b_is_key T
  have G_is_page_number : FnOk P w K mg base CX0 3 (He.ga K "is_page_number") T.fd_is_page_number ["thing"] (sp_rng 1 1000000) := ok_is_page_number T
  have b_is_page_number := b_is_page_number T
  refine T.F_is_node.ok sc_is_node (fun vs H Q E h => ?_) (fun cdv A outer st H vs Q E hr h => ?_)
  · obtain ⟨v, g, rfl, _⟩ := h
    rfl
  · obtain ⟨v, g, rfl, hv, hg, hl, kq⟩ := h
    refine ⟨_, PSs.nox (pss_cons (ps_if (PW.pt (pw_or (pt_not (pt_val (pe_call G_is_row (hr.mono (by first | decide | omega)) rfl T.g_is_row T.F_is_row.kp b_is_row .nil pass0 (pa_cons (pv 0) (pa_cons pe_int pa_nil))))) (pw_or1 (pt_cmpR op_ne (pe_ix ix_tup (pv 0) pe_int (fun _ _ => rfl)) pe_str (nomark _)))))
 (pss_one (ps_ret pe_bl))
 pss_nil)
 (pss_cons (ps_par (i := 1) (j := 2) rfl sc_is_node.nd rfl rfl (by decide) rfl rfl (pa_cons (pe_ix ix_tup (pv 0) pe_int (fun _ _ => rfl)) (pa_cons (pe_ix ix_tup (pv 0) pe_int (fun _ _ => rfl)) pa_nil)) rfl)
 (pss_cons (ps_if (PW.pt (pw_or (pt_not (pt_val (pe_callB call_isi rfl T.n_isinstance (by decide +kernel) (pa_cons (pv 1) (pa_cons (pe_ty "tuple" T.n_tuple (by decide +kernel)) pa_nil))))) (pw_or (pt_not (pt_val (pe_callB call_isi rfl T.n_isinstance (by decide +kernel) (pa_cons (pv 2) (pa_cons (pe_ty "tuple" T.n_tuple (by decide +kernel)) pa_nil))))) (pw_or1 (pt_cmpR op_ne (pe_op op_add (pe_callB call_len_seq rfl T.n_len PySem.boot_len (pa_cons (pv 1) pa_nil)) pe_int) (pe_callB call_len_seq rfl T.n_len PySem.boot_len (pa_cons (pv 2) pa_nil)) (nomark _))))))
 (pss_one (ps_ret pe_bl))
 pss_nil)
 (pss_cons (ps_if (PW.pt (pw_or (pt_not (pt_val (pe_callB (cr_all rfl) rfl T.n_all (by decide +kernel) (pa_cons (pe_lc (own := [("key", 3)]) (g := gName 3) (tt := tYes) rfl sc_is_node.nd (pi_tup (pv 1)) (blkOk_by (own := [("key", 3)]) (N := ["thing", "keys", "kids", "key", "kid"]) (sc := defScope s_is_node) (by decide +kernel)) (fun _ _ _ _ _ => (pg_name (i := 3) sc_is_node.nd rfl (Or.inl rfl))) (fun _ _ _ _ _ => pts_nil) (fun _ _ _ _ _ => (pe_call G_is_key (hr.mono (by first | decide | omega)) rfl T.g_is_key T.F_is_key.kp b_is_key .nil pass0 (pa_cons (pv 3) pa_nil)))) pa_nil)))) (pw_or1 (pt_not (pt_val (pe_callB (cr_all rfl) rfl T.n_all (by decide +kernel) (pa_cons (pe_lc (own := [("kid", 4)]) (g := gName 4) (tt := tYes) rfl sc_is_node.nd (pi_tup (pv 2)) (blkOk_by (own := [("kid", 4)]) (N := ["thing", "keys", "kids", "key", "kid"]) (sc := defScope s_is_node) (by decide +kernel)) (fun _ _ _ _ _ => (pg_name (i := 4) sc_is_node.nd rfl (Or.inl rfl))) (fun _ _ _ _ _ => pts_nil) (fun _ _ _ _ _ => (pe_call G_is_page_number (hr.mono (by first | decide | omega)) rfl T.g_is_page_number T.F_is_page_number.kp b_is_page_number .nil pass0 (pa_cons (pv 4) pa_nil)))) pa_nil)))))))
 (pss_one (ps_ret pe_bl))
 pss_nil)
 (pss_one (ps_ret (pe_call G_are_rising (hr.mono (by first | decide | omega)) rfl T.g_are_rising T.F_are_rising.kp b_are_rising .nil pass0 (pa_cons (pv 1) pa_nil)))))))), ?_⟩
    cases g with
    | leaf ps nx => cases hl
    | node ks kids =>
      obtain ⟨t, q1, q2, rfl, ht, h1, h2⟩ := hv
      obtain ⟨g1, g2, g3, g4, g5⟩ := hg
      refine ⟨_, rfl, t, _, _, rfl, ht, true, rfl, iteF ?_⟩
      refine ⟨_, rfl, t, _, _, _, rfl, rfl, SqT.of ht, rfl, rfl, _, rfl, iteF ?_⟩
      refine ⟨_, rfl, t, _, _, _, rfl, rfl, SqT.of ht, rfl, _, rfl, t, _, _, _, rfl, rfl, SqT.of ht, rfl, _, _, rfl, ?_⟩
      refine ⟨_, rfl, _, _, .type "tuple", .type "tuple", true, rfl, .ty "tuple", .base (.tup h1), kit_ty (by decide +kernel), true, rfl, iteF ?_⟩
      refine ⟨_, rfl, _, _, .type "tuple", .type "tuple", true, rfl, .ty "tuple", h2.ty, kit_ty (by decide +kernel), true, rfl, iteF ?_⟩
      refine ⟨_, rfl, q1, _, rfl, .inr (SqT.of h1), _, _, rfl, rfl, _, rfl, q2, _, rfl, .inr h2.sq, ?_⟩
      have e1 : (!decide (V.int (((ks.map V.int).length : Nat) + 1 : Int) = V.int (((kids.map V.int).length : Nat) : Int))) = false := by
        rw [List.length_map, List.length_map, show ((ks.length : Nat) : Int) + 1 = (kids.length : Int) by omega]
        simp
      refine ⟨rfl, _, rfl, ?_⟩
      refine (congrArg (fun b => (if b = true then _ else _)) e1).mpr ?_
      refine iteF ?_
      refine ⟨_, rfl, q1, rfl, ⟨_, SqT.of (h1)⟩, fun D1 hD1 => ?_⟩
      refine lc_it (walk_tup (xs := ks.map V.int)) (fun i H' => Same H H' ∧ H' D1 = some (.lst ((List.replicate i true).map V.bl))) ⟨same_new hD1, upd_same⟩ (fun i H' _ z => SqT.of (z.1 _ _ (h1))) ?_ ?_
      · rintro i x H3 H4 hi ⟨s3, hD3⟩ ⟨rfl, hx⟩
        obtain ⟨k, hk, rfl⟩ := map_at hx
        have hr2 := g2 k (List.mem_of_getElem? hk)
        refine ⟨rfl, ?_⟩
        dsimp only [tYes]
        rw [if_pos rfl]
        refine ⟨_, rfl, k, rfl, _, hD3, ?_, same_upd s3 hD1, ?_⟩
        · rw [List.length_map, List.length_replicate]
          rw [List.length_map] at hi
          exact Nat.lt_of_le_of_lt (by omega : i ≤ 1000) (by decide)
        · rw [upd_same, decide_eq_true hr2.1, decide_eq_true hr2.2, ← rep_snoc]
          rfl
      rintro H5 ⟨sH5, hDH5⟩
      refine ⟨D1, _, rfl, SqL.of hDH5, ?_⟩
      rw [rep_true]
      refine ⟨true, rfl, iteF ?_⟩
      refine ⟨_, rfl, q2, rfl, ⟨_, (h2.same sH5).sq⟩, fun D2 hD2 => ?_⟩
      refine lc_it (walk_tup (xs := kids.map V.int)) (fun i H' => Same H5 H' ∧ H' D2 = some (.lst ((List.replicate i true).map V.bl))) ⟨same_new hD2, upd_same⟩ (fun i H' _ z => ((h2.same sH5).same z.1).sq) ?_ ?_
      · rintro i x H3 H4 hi ⟨s3, hD3⟩ ⟨rfl, hx⟩
        obtain ⟨k, hk, rfl⟩ := map_at hx
        have hr2 := g3 k (List.mem_of_getElem? hk)
        refine ⟨rfl, ?_⟩
        dsimp only [tYes]
        rw [if_pos rfl]
        refine ⟨_, rfl, k, rfl, _, hD3, ?_, same_upd s3 hD2, ?_⟩
        · rw [List.length_map, List.length_replicate]
          rw [List.length_map] at hi
          exact Nat.lt_of_le_of_lt (by omega : i ≤ 1000) (by decide)
        · rw [upd_same, decide_eq_true hr2.1, decide_eq_true hr2.2, ← rep_snoc]
          rfl
      rintro H6 ⟨sH6, hDH6⟩
      refine ⟨D2, _, rfl, SqL.of hDH6, ?_⟩
      rw [rep_true]
      refine ⟨true, rfl, iteF ?_⟩
      exact ⟨_, rfl, q1, ks, rfl, .inr (sH6 _ _ (sH5 _ _ h1)), g1, by omega, fun H7 s7 => kq H7 ((sH5.trans sH6).trans s7)⟩
def sp_is_page : Sp := fun vs H Q _ => ∃ (v : V) (g : Pg), vs = [v] ∧ PgAt H v g ∧ PgOk g ∧ ∀ H', Same H H' → Q (.bl true) H'
theorem ok_is_page (T : TX K mg) : FnOk P w K mg base CX0 8 (He.ga K "is_page") T.fd_is_page ["thing"] sp_is_page := by
  have G_is_leaf : FnOk P w K mg base CX0 7 (He.ga K "is_leaf") T.fd_is_leaf ["thing"] sp_is_leaf := ok_is_leaf T
  have b_is_leaf := b_is_leaf T
  have G_is_node : FnOk P w K mg base CX0 4 (He.ga K "is_node") T.fd_is_node ["thing"] sp_is_node := ok_is_node T
  have b_is_node := b_is_node T
  refine T.F_is_page.ok sc_is_page (fun vs H Q E h => ?_) (fun cdv A outer st H vs Q E hr h => ?_)
  · obtain ⟨v, g, rfl, _⟩ := h
    rfl
  · obtain ⟨v, g, rfl, hv, hg, kq⟩ := h
    refine ⟨_, PSs.nox (pss_one (ps_ret (pe_or (pe_call G_is_leaf (hr.mono (by first | decide | omega)) rfl T.g_is_leaf T.F_is_leaf.kp b_is_leaf .nil pass0 (pa_cons (pv 0) pa_nil)) (pe_one (pe_call G_is_node (hr.mono (by first | decide | omega)) rfl T.g_is_node T.F_is_node.kp b_is_node .nil pass0 (pa_cons (pv 0) pa_nil)))))), ?_⟩
    refine ⟨_, rfl, v, g, rfl, hv, hg, fun H1 s1 => ⟨_, rfl, ?_⟩⟩
    cases c : Pg.isLeaf g with
    | true => exact iteT (kq H1 s1)
    | false => exact iteF ⟨_, rfl, v, g, rfl, hv.keep (Keep.of s1), hg, c, fun H2 s2 => kq H2 (s1.trans s2)⟩
def Pg.parts : Pg → Nat
  | .leaf ps _ => ps.length
  | .node _ kids => kids.length
def sp_parts_of (K : PySem.W.Frag) : Sp := fun vs H Q _ => ∃ (v : V) (g : Pg), vs = [v] ∧ PgAt H v g ∧ ∀ a xs, SqT K H a xs → xs.length = Pg.parts g → Q (.ref a) H
theorem ok_parts_of (T : TX K mg) : FnOk P w K mg base CX0 1 (He.ga K "parts_of") T.fd_parts_of ["page"] (sp_parts_of K) := by
  refine T.F_parts_of.ok sc_parts_of (fun vs H Q E h => ?_) (fun cdv A outer st H vs Q E hr h => ?_)
  · obtain ⟨v, g, rfl, _⟩ := h
    rfl
  · obtain ⟨v, g, rfl, hv, kq⟩ := h
    refine ⟨_, PSs.nox (pss_one (ps_ret (pe_ifExp (pt_cmpR op_eq (pe_ix ix_tup (pv 0) pe_int (fun _ _ => rfl)) pe_str (nomark _)) (pe_ix ix_tup (pv 0) pe_int (fun _ _ => rfl)) (pe_ix ix_tup (pv 0) pe_int (fun _ _ => rfl))))), ?_⟩
    cases g with
    | leaf ps nx =>
      obtain ⟨t, q, rfl, ht, xs, hq, hp⟩ := hv
      refine ⟨_, rfl, t, _, _, _, rfl, rfl, SqT.of ht, rfl, rfl, _, rfl, iteT ?_⟩
      exact ⟨_, rfl, t, _, _, _, rfl, rfl, SqT.of ht, rfl, kq q xs hq.sq (Paired.length hp)⟩
    | node ks kids =>
      obtain ⟨t, q1, q2, rfl, ht, h1, h2⟩ := hv
      refine ⟨_, rfl, t, _, _, _, rfl, rfl, SqT.of ht, rfl, rfl, _, rfl, iteF ?_⟩
      exact ⟨_, rfl, t, _, _, _, rfl, rfl, SqT.of ht, rfl, kq q2 _ h2.sq (List.length_map ..)⟩
def sp_is_numbered_page : Sp := fun vs H Q _ => ∃ (x : V) (q : Int × Pg), vs = [x] ∧ NumAt H x q ∧ 1 ≤ q.1 ∧ q.1 ≤ 1000000 ∧ PgOk q.2 ∧ ∀ H', Same H H' → Q (.bl true) H'
theorem ok_is_numbered_page (T : TX K mg) : FnOk P w K mg base CX0 9 (He.ga K "is_numbered_page") T.fd_is_numbered_page ["thing"] sp_is_numbered_page := by
  have G_is_row : FnOk P w K mg base CX0 1 (He.ga K "is_row") T.fd_is_row ["thing", "many"] sp_is_row := ok_is_row T
  have b_is_row := b_is_row T
  have G_is_page_number : FnOk P w K mg base CX0 3 (He.ga K "is_page_number") T.fd_is_page_number ["thing"] (sp_rng 1 1000000) := ok_is_page_number T
  have b_is_page_number := b_is_page_number T
  have G_is_page : FnOk P w K mg base CX0 8 (He.ga K "is_page") T.fd_is_page ["thing"] sp_is_page := ok_is_page T
  have b_is_page := b_is_page T
  refine T.F_is_numbered_page.ok sc_is_numbered_page (fun vs H Q E h => ?_) (fun cdv A outer st H vs Q E hr h => ?_)
  · obtain ⟨x, q, rfl, _⟩ := h
    rfl
  · obtain ⟨x, q, rfl, ⟨t, v, rfl, ht, hv⟩, h1, h2, hg, kq⟩ := h
    refine ⟨_, PSs.nox (pss_one (ps_ret (pe_and (pe_call G_is_row (hr.mono (by first | decide | omega)) rfl T.g_is_row T.F_is_row.kp b_is_row .nil pass0 (pa_cons (pv 0) (pa_cons pe_int pa_nil))) (pe_and (pe_call G_is_page_number (hr.mono (by first | decide | omega)) rfl T.g_is_page_number T.F_is_page_number.kp b_is_page_number .nil pass0 (pa_cons (pe_ix ix_tup (pv 0) pe_int (fun _ _ => rfl)) pa_nil)) (pe_one (pe_call G_is_page (hr.mono (by first | decide | omega)) rfl T.g_is_page T.F_is_page.kp b_is_page .nil pass0 (pa_cons (pe_ix ix_tup (pv 0) pe_int (fun _ _ => rfl)) pa_nil))))))), ?_⟩
    refine ⟨_, rfl, t, _, _, rfl, ht, true, rfl, iteT ?_⟩
    refine ⟨_, rfl, t, _, _, _, rfl, rfl, SqT.of ht, rfl, q.1, rfl, ?_⟩
    rw [decide_eq_true h1, decide_eq_true h2]
    refine ⟨true, rfl, iteT ?_⟩
    exact ⟨_, rfl, t, _, _, _, rfl, rfl, SqT.of ht, rfl, v, q.2, rfl, hv, hg, kq⟩
end
end K30

namespace K30
open PySem PySem.Spec PyProof.Rows L2 RZ HX TR
theorem sqF {K : PySem.W.Frag} {H : Hp} {a : Addr} {o : Obj} {xs : List V} (h : H a = some (.frz o (.tup xs))) : SqT K H a xs := .inl (.inr ⟨o, h⟩)
section
variable {P : Program} {w : World} {K : PySem.W.Frag} {mg : Str → Option Value} {base : Heap}
def sp_are_numbered_pages : Sp := fun vs H Q _ => ∃ (b : Addr) (o : Obj) (xs : List V) (S : List (Int × Pg)), vs = [.ref b] ∧ H b = some (.frz o (.tup xs)) ∧ Paired (NumAt H) xs S ∧ (∀ q ∈ S, 1 ≤ q.1 ∧ q.1 ≤ 1000000 ∧ PgOk q.2) ∧ S.Pairwise (fun a b => a.1 < b.1) ∧ S ≠ [] ∧ S.length ≤ 1000 ∧
  ∀ H', Same H H' → Q (.bl true) H'
theorem ok_are_numbered_pages (T : TX K mg) : FnOk P w K mg base CX0 10 (He.ga K "are_numbered_pages") T.fd_are_numbered_pages ["thing"] sp_are_numbered_pages := by
  have G_is_numbered_page : FnOk P w K mg base CX0 9 (He.ga K "is_numbered_page") T.fd_is_numbered_page ["thing"] sp_is_numbered_page := ok_is_numbered_page T
  have b_is_numbered_page := b_is_numbered_page T
  refine T.F_are_numbered_pages.ok sc_are_numbered_pages (fun vs H Q E h => ?_) (fun cdv A outer st H vs Q E hr h => ?_)
  · obtain ⟨b, o, xs, S, rfl, _⟩ := h
    rfl
  · obtain ⟨b, o, xs, S, rfl, hb, hp, hg, hs, hne, hl, kq⟩ := h
    refine ⟨_, PSs.nox (pss_cons (ps_if (PW.pt (pw_or (pt_not (pt_val (pe_callB call_isi rfl T.n_isinstance (by decide +kernel) (pa_cons (pv 0) (pa_cons (pe_ty "tuple" T.n_tuple (by decide +kernel)) pa_nil))))) (pw_or1 (pt_not (pt_val (pe_callB (cr_all rfl) rfl T.n_all (by decide +kernel) (pa_cons (pe_lc (own := [("part", 3)]) (g := gName 3) (tt := tYes) rfl sc_are_numbered_pages.nd (pi_tup (pv 0)) (blkOk_by (own := [("part", 3)]) (N := ["thing", "one", "other", "part"]) (sc := defScope s_are_numbered_pages) (by decide +kernel)) (fun _ _ _ _ _ => (pg_name (i := 3) sc_are_numbered_pages.nd rfl (Or.inl rfl))) (fun _ _ _ _ _ => pts_nil) (fun _ _ _ _ _ => (pe_call G_is_numbered_page (hr.mono (by first | decide | omega)) rfl T.g_is_numbered_page T.F_is_numbered_page.kp b_is_numbered_page .nil pass0 (pa_cons (pv 3) pa_nil)))) pa_nil)))))))
 (pss_one (ps_ret pe_bl))
 pss_nil)
 (pss_one (ps_ret (pe_callB (cr_all rfl) rfl T.n_all (by decide +kernel) (pa_cons (pe_lc (own := [("one", 1), ("other", 2)]) (g := gTup K 2 (gCons (gName 1) (gCons (gName 2) gNil))) (tt := tYes) rfl sc_are_numbered_pages.nd (pi_zipA rfl T.n_zip (pa_cons (pv 0) (pa_cons (pe_slice sl_tupA (pv 0) (po_some pe_int) po_none) pa_nil))) (blkOk_by (own := [("one", 1), ("other", 2)]) (N := ["thing", "one", "other", "part"]) (sc := defScope s_are_numbered_pages) (by decide +kernel)) (fun _ _ _ _ _ => (pg_tup rfl (pgs_cons (pg_name (i := 1) sc_are_numbered_pages.nd rfl (Or.inl rfl)) (pgs_cons (pg_name (i := 2) sc_are_numbered_pages.nd rfl (Or.inl rfl)) pgs_nil)))) (fun _ _ _ _ _ => pts_nil) (fun _ _ _ _ _ => (pe_cmpR op_lt (pe_ix (ixt K) (pv 1) pe_int (fun _ _ => rfl)) (pe_ix (ixt K) (pv 2) pe_int (fun _ _ => rfl)) (nomark _)))) pa_nil))))), ?_⟩
    have hxl := Paired.length hp
    have xne : xs ≠ [] := fun e => hne (List.eq_nil_of_length_eq_zero (by rw [← hxl, e]; rfl))
    refine ⟨_, rfl, _, _, .type "tuple", .type "tuple", true, rfl, .ty "tuple", .fTuple hb, kit_ty (by decide +kernel), true, rfl, iteF ?_⟩
    refine ⟨_, rfl, b, rfl, ⟨_, sqF hb⟩, fun D hD => ?_⟩
    refine lc_it (walk_tup (xs := xs)) (fun i H' => Same H H' ∧ H' D = some (.lst ((List.replicate i true).map V.bl))) ⟨same_new hD, upd_same⟩ (fun i H' _ z => sqF (z.1 _ _ hb)) ?_ ?_
    · rintro i x H3 H4 hi ⟨s3, hD3⟩ ⟨rfl, hx⟩
      obtain ⟨q, hq, hxq⟩ := pget1 hp hx
      obtain ⟨g1, g2, g3⟩ := hg q (List.mem_of_getElem? hq)
      refine ⟨rfl, ?_⟩
      dsimp only [tYes]
      rw [if_pos rfl]
      refine ⟨_, rfl, x, q, rfl, hxq.keep (Keep.of s3), g1, g2, g3, fun H5 s5 => ⟨_, s5 _ _ hD3, ?_, same_upd (s3.trans s5) hD, ?_⟩⟩
      · rw [List.length_map, List.length_replicate]
        exact Nat.lt_of_le_of_lt (by omega : i ≤ 1000) (by decide)
      · rw [upd_same, rep_snoc]
    rintro H5 ⟨s5, hD5⟩
    refine ⟨D, _, rfl, SqL.of hD5, ?_⟩
    rw [rep_true]
    refine ⟨true, rfl, iteF ?_⟩
    have hb5 := s5 _ _ hb
    have ec : cutV xs (some 1) none = xs.drop 1 := cut_from' (n := 1)
    have lz : xs.length - 1 = min xs.length (xs.drop 1).length := by
      rw [List.length_drop]
      omega
    refine ⟨_, rfl, _, rfl, 1, rfl, b, _, rfl, sqF hb5, (fun z => (drop1 xne z).elim), fun _ c hc => ?_⟩
    rw [ec]
    have s6 : Same H5 (upd H5 c (.tup (xs.drop 1))) := same_new hc
    have hc6 : upd H5 c (.tup (xs.drop 1)) c = some (.tup (xs.drop 1)) := upd_same
    generalize upd H5 c (.tup (xs.drop 1)) = H6 at s6 hc6
    refine ⟨b, c, _, _, rfl, .inr ⟨sqF (s6 _ _ hb5), SqT.of hc6, fun D2 hD2 => ?_⟩⟩
    refine lc_it (RU.walk_zipT lz) (fun i H' => Same H6 H' ∧ H' D2 = some (.lst ((List.replicate i true).map V.bl))) ⟨same_new hD2, upd_same⟩ (fun i H' _ z => ⟨sqF (z.1 _ _ (s6 _ _ hb5)), SqT.of (z.1 _ _ hc6)⟩) ?_ ?_
    · rintro i x H3 H4 hi ⟨s3, hD3⟩ ⟨t, x1, x2, rfl, ht, rfl, e1, e2⟩
      dsimp only at e1 e2
      rw [List.getElem?_drop] at e2
      obtain ⟨q1, hq1, t1, v1, rfl, ht1, _⟩ := pget1 hp e1
      obtain ⟨q2, hq2, t2, v2, rfl, ht2, _⟩ := pget1 hp e2
      have hlt : q1.1 < q2.1 := by
        obtain ⟨a1, a2⟩ := List.getElem?_eq_some_iff.mp hq1
        obtain ⟨b1, b2⟩ := List.getElem?_eq_some_iff.mp hq2
        rw [← a2, ← b2]
        exact List.pairwise_iff_getElem.mp hs _ _ a1 b1 (by omega)
      have s04 : Same H (upd H3 t (.tup [.ref t1, .ref t2])) := ((s5.trans s6).trans s3).trans (same_new ht)
      refine ⟨t, _, rfl, SqT.of upd_same, rfl, _, _, rfl, _, _, rfl, rfl, rfl, ?_⟩
      dsimp only [tYes]
      rw [if_pos rfl]
      refine ⟨_, rfl, t1, _, _, _, rfl, rfl, SqT.of (s04 _ _ ht1), rfl, _, rfl, t2, _, _, _, rfl, rfl, SqT.of (s04 _ _ ht2), rfl, _, _, rfl, rfl, _, same_new ht _ _ hD3, ?_, same_upd (s3.trans (same_new ht)) hD2, ?_⟩
      · rw [List.length_map, List.length_replicate]
        exact Nat.lt_of_le_of_lt (by omega : i ≤ 1000) (by decide)
      · rw [upd_same, ← rep_snoc]
        show some (HO.lst (_ ++ [V.bl (decide (q1.1 < q2.1))])) = _
        rw [decide_eq_true hlt]
    · rintro H7 ⟨s7, hD7⟩
      refine ⟨D2, _, rfl, SqL.of hD7, ?_⟩
      rw [rep_true]
      exact kq H7 ((s5.trans s6).trans s7)
end
end K30

namespace K30
open PySem PySem.Spec PyProof.Rows L2 RZ HX TR
section
variable {P : Program} {w : World} {K : PySem.W.Frag} {mg : Str → Option Value} {base : Heap}
/-- how many keys are not above the key -/
def placeOf (ks : List Int) (k : Int) : Nat := (ks.filter fun x => decide (x ≤ k)).length
def sp_kid_place : Sp := fun vs H Q _ => ∃ (a : Addr) (ks : List Int) (k : Int), vs = [.ref a, .int k] ∧ H a = some (.tup (ks.map V.int)) ∧ ks.length ≤ 1000 ∧ ∀ H', Same H H' → Q (.int (placeOf ks k : Nat)) H'
end
end K30

namespace K30
open PySem PySem.Spec PyProof.Rows L2 RZ HX TR
def seenE (ks : List Int) : List (Key × V) := ks.map fun k => ((.inl k : Key), V.bl true)
theorem seen_none {ks : List Int} {n : Int} (h : n ∉ ks) : valV (seenE ks) (.inl n) = none := by
  unfold valV
  rw [List.find?_eq_none.mpr]
  · rfl
  · intro x hx
    obtain ⟨k, hk, rfl⟩ := List.mem_map.mp hx
    intro e
    have e2 := of_decide_eq_true e
    injection e2 with e3
    exact h (e3 ▸ hk)
theorem seen_put {ks : List Int} {n : Int} (h : n ∉ ks) : putK (seenE ks) (.inl n) (.bl true) = seenE (ks ++ [n]) := by
  rw [RU.putK_new (fun q hq e => ?_)]
  · unfold seenE
    rw [List.map_append]
    rfl
  · obtain ⟨k, hk, rfl⟩ := List.mem_map.mp hq
    injection e with e3
    exact h (e3 ▸ hk)
def RowAt (H : Hp) (lv : Addr) (v : V) (r : List Int) : Prop := ∃ b, v = .ref b ∧ b ≠ lv ∧ H b = some (.lst (r.map V.int))
def LevAt (H : Hp) (lv : Addr) (R : List (List Int)) : Prop := ∃ vs : List V, H lv = some (.lst vs) ∧ Paired (RowAt H lv) vs R
theorem RowAt.upd {H : Hp} {lv p : Addr} {o : HO} {v : V} {r : List Int} (h : RowAt H lv v r) (hp : ∀ xs, H p ≠ some (.lst xs)) : RowAt (upd H p o) lv v r := by
  obtain ⟨b, e, n, h1⟩ := h
  exact ⟨b, e, n, by rw [upd_ne (fun z => hp _ (z ▸ h1))]; exact h1⟩
theorem LevAt.upd {H : Hp} {lv p : Addr} {o : HO} {R : List (List Int)} (h : LevAt H lv R) (hp : ∀ xs, H p ≠ some (.lst xs)) : LevAt (upd H p o) lv R := by
  obtain ⟨vs, h1, h2⟩ := h
  exact ⟨vs, by rw [upd_ne (fun z => hp _ (z ▸ h1))]; exact h1, paired_imp (fun _ _ r => RowAt.upd r hp) h2⟩
theorem LevAt.same {H H' : Hp} {lv : Addr} {R : List (List Int)} (h : LevAt H lv R) (s : Same H H') : LevAt H' lv R := by
  obtain ⟨vs, h1, h2⟩ := h
  exact ⟨vs, s _ _ h1, paired_imp (fun _ _ ⟨b, e, n, h⟩ => ⟨b, e, n, s _ _ h⟩) h2⟩
theorem laid_some {S : List (Int × Pg)} : ∀ {m : Nat} {u : Tr m}, Laid S m u → ∃ g, lkp S (num m u) = some g
  | 0, _, ⟨_, h⟩ => ⟨_, h⟩
  | _ + 1, _, ⟨h, _⟩ => ⟨_, h⟩
/-- the page that stands at the number -/
def pgv (es : List (Key × V)) (k : Int) : V := (valV es (.inl k)).getD .non
theorem pgv_ok {H : Hp} {d : Addr} {es : List (Key × V)} {D : List (Int × Pg)} (h1 : H d = some (.dK es)) (h2 : Paired (EnAt H) es D) {k : Int} {g : Pg} (e : lkp D k = some g) : DGet H d (.int k) (some (pgv es k)) ∧ PgAt H (pgv es k) g := by
  rcases valV_of (k := k) h2 with ⟨z, _⟩ | ⟨g', v, z, hv, hg⟩
  · rw [z] at e
    cases e
  · rw [z] at e
    cases e
    have e2 : pgv es k = v := by
      unfold pgv
      rw [hv]
      rfl
    rw [e2]
    exact ⟨hv ▸ DGet.k (k := .inl k) h1, hg⟩
section
variable {P : Program} {w : World} {K : PySem.W.Frag} {mg : Str → Option Value} {base : Heap}
def sp_levels_from : Sp := fun vs H Q _ => ∃ (l : Nat) (t : Tr l) (S : List (Int × Pg)) (d : Addr), vs = [.int (num l t), .ref d] ∧ DctAt H d S ∧ Laid S l t ∧ KeyOk l t ∧ (nums l t).Nodup ∧ S.length = (nums l t).length ∧ S.length ≤ 1000 ∧ l ≤ 100 ∧
  ∀ (H' : Hp) (a : Addr), Same H H' → LevAt H' a (rows l [t]) → Q (.ref a) H'
theorem ok_levels_from (T : TX K mg) : FnOk P w K mg base CX0 1 (He.ga K "levels_from") T.fd_levels_from ["root", "pages"] sp_levels_from := by
  refine T.F_levels_from.ok sc_levels_from (fun vs H Q E h => ?_) (fun cdv A outer st H vs Q E hr h => ?_)
  · obtain ⟨l, t, S, d, rfl, _⟩ := h
    rfl
  · obtain ⟨l, t, S, d, rfl, ⟨es, hd, hde⟩, hL, hK, nd, hlen, few, hl, kq⟩ := h
    refine ⟨_, PSs.nox (pss_cons (ps_set (i := 2) sc_levels_from.nd rfl (Or.inl rfl) pe_dnewK)
 (pss_cons (ps_set (i := 3) sc_levels_from.nd rfl (Or.inl rfl) (pe_lst pa_nil))
 (pss_cons (ps_set (i := 4) sc_levels_from.nd rfl (Or.inl rfl) (pe_lst (pa_cons (pv 0) pa_nil)))
 (pss_cons (ps_while PassesOwn.never (pt_truth (pv 4) (by intro _; rfl))
 (pss_cons (ps_for PassesOwn.never rfl (pi_list (pv 4)) (pg_name (i := 5) sc_levels_from.nd rfl (Or.inl rfl))
 (pss_cons (ps_if (PW.pt (pw_or (pt_cmp (pc_dnotin (hu_of hr) (pv 5) (pv 1))) (pw_or1 (pt_cmp (pc_din (hu_of hr) (pv 5) (pv 2))))))
 (pss_one (ps_ret pe_non))
 pss_nil)
 (pss_one (ps_dput (hu_of hr) (pv 2) (pv 5) pe_bl rfl))))
 (pss_cons (ps_expr (pe_bm PySem.F.plainAttrs_list PySem.F.slot_list_append PySem.F.type_list_append mt_append (pv 3) (pa_cons (pv 4) pa_nil)))
 (pss_cons (ps_setLc (i := 6) (own := [("number", 5)]) (g := gName 5) (tt := _) rfl sc_levels_from.nd rfl rfl (sw_true rfl rfl rfl (by decide +kernel)) (pi_list (pv 4)) (blkOk_by (own := [("number", 5)]) (N := ["root", "pages", "seen", "levels", "level", "number", "nodes", "node", "kid"]) (sc := defScope s_levels_from) (by decide +kernel)) (fun _ _ _ _ _ => (pg_name (i := 5) sc_levels_from.nd rfl (Or.inl rfl))) (fun _ _ _ _ _ => pts_one (pt_cmpR op_eq (pe_ix (ixt K) (pe_dget (hu_of hr) (pv 1) (pv 5) (fun _ _ => rfl)) pe_int (fun _ _ => rfl)) pe_str (nomark _))) (fun _ _ _ _ _ => (pe_dget (hu_of hr) (pv 1) (pv 5) (fun _ _ => rfl))))
 (pss_cons (ps_if (PW.pt (pw_and (pt_truth (pv 6) (by intro _; rfl)) (pw_and1 (pt_cmpR op_lt (pe_callB call_len_seq rfl T.n_len PySem.boot_len (pa_cons (pv 6) pa_nil)) (pe_callB call_len_seq rfl T.n_len PySem.boot_len (pa_cons (pv 4) pa_nil)) (nomark _)))))
 (pss_one (ps_ret pe_non))
 pss_nil)
 (pss_one (ps_setLc2 (i := 4) (own := [("node", 7), ("kid", 8)]) (vs1 := [8]) (g := gName 7) (g1 := gName 8) (tt := tYes) (tt1 := tYes) rfl sc_levels_from.nd rfl rfl (sw_true rfl rfl rfl (by decide +kernel)) (pi_list (pv 6)) (blkOk_by (own := [("node", 7), ("kid", 8)]) (N := ["root", "pages", "seen", "levels", "level", "number", "nodes", "node", "kid"]) (sc := defScope s_levels_from) (by decide +kernel)) (by decide) (fun _ _ _ _ _ => (pg_name (i := 7) sc_levels_from.nd rfl (Or.inl rfl))) (fun _ _ _ _ _ => pts_nil) (fun _ _ _ _ _ => (RU.pi_tupK K (pe_ix (ixt K) (pv 7) pe_int (fun _ _ => rfl)))) (fun _ _ _ _ _ => (pg_name (i := 8) sc_levels_from.nd rfl (Or.inl rfl))) (fun _ _ _ _ _ => pts_nil) (fun _ _ _ _ _ => (pv 8)))))))))
 (pss_one (ps_ret (pe_ifExp (pt_cmpR op_eq (pe_callB call_lenD rfl T.n_len PySem.boot_len (pa_cons (pv 2) pa_nil)) (pe_callB call_lenD rfl T.n_len PySem.boot_len (pa_cons (pv 1) pa_nil)) (nomark _)) (pv 3) pe_non))))))), ?_⟩
    refine fun ds hds => ⟨Nat.zero_le _, fun lv hlv => ?_⟩
    refine ⟨_, rfl, by show 1 ≤ sizeLine; decide, fun a0 ha0 => ?_⟩
    have n1 : ds ≠ lv := ne_of_none (upd_same : upd H ds (.dK []) ds = _) hlv
    have s1 : Same H (upd (upd H ds (.dK [])) lv (.lst [])) := (same_new hds).trans (same_new hlv)
    have hds1 : upd (upd H ds (.dK [])) lv (.lst []) ds = some (.dK []) := by rw [upd_ne n1]; exact upd_same
    have hlv1 : upd (upd H ds (.dK [])) lv (.lst []) lv = some (.lst []) := upd_same
    generalize upd (upd H ds (.dK [])) lv (.lst []) = H1 at s1 hds1 hlv1 ha0
    have s2 := s1.trans (same_new (o := .lst [.int (num l t)]) ha0)
    have hds2 := same_new (o := .lst [.int (num l t)]) ha0 _ _ hds1
    have hlv2 := same_new (o := .lst [.int (num l t)]) ha0 _ _ hlv1
    have ha2 : upd H1 a0 (.lst [.int (num l t)]) a0 = some (.lst [.int (num l t)]) := upd_same
    have na0 : a0 ≠ lv := (ne_of_none hlv1 ha0).symm
    have hRlen : (rows l [t]).flatten.Perm (nums l t) := by
      have z := rows_perm [t]
      simpa using z
    have ndR : (rows l [t]).flatten.Nodup := hRlen.nodup_iff.mpr nd
    have nds : ∀ b o, H b = some o → b ≠ ds := fun b o e => ne_of_none e hds
    refine ⟨fun k σ H' => ∃ (a : Addr) (cur : List Int) (v5 v6 v7 v8 : Option V) (done : List (List Int)), σ = [some (.int (num l t)), some (.ref d), some (.ref ds), some (.ref lv), some (.ref a), v5, v6, v7, v8] ∧ Same H H' ∧ a ≠ lv ∧ H' a = some (.lst (cur.map V.int)) ∧ H' ds = some (.dK (seenE done.flatten)) ∧ LevAt H' lv done ∧
      ((k = 0 ∧ cur = [] ∧ done = rows l [t]) ∨ ∃ (m : Nat) (F : List (Tr m)), k = m + 1 ∧ cur = F.map (num m) ∧ F ≠ [] ∧ (∀ u ∈ F, Laid S m u) ∧ (∀ u ∈ F, KeyOk m u) ∧ done ++ rows m F = rows l [t]),
      ⟨l + 1, a0, [num l t], _, _, _, _, [], rfl, s2, na0, ha2, hds2, ⟨[], hlv2, .nil⟩, .inr ⟨l, [t], rfl, rfl, by simp, fun u hu => by rw [List.mem_singleton.mp hu]; exact hL, fun u hu => by rw [List.mem_singleton.mp hu]; exact hK, rfl⟩⟩, ?_⟩
    rintro k σ H3 ⟨a, cur, v5, v6, v7, v8, done, rfl, s3, na, ha3, hds3, hlv3, hcase⟩
    have hd3 := s3 _ _ hd
    have hde3 := paired_imp (fun _ _ (r : EnAt H _ _) => (⟨r.1, r.2.keep (Keep.of s3)⟩ : EnAt H3 _ _)) hde
    refine ⟨_, rfl, !(cur.map V.int).isEmpty, .inl ⟨_, SqL.of ha3, rfl⟩, ?_⟩
    rcases hcase with ⟨rfl, rfl, rfl⟩ | ⟨m, F, rfl, rfl, hF, hFL, hFK, hdone⟩
    · refine iteF ?_
      have e2 : decide (V.int ((seenE (rows l [t]).flatten).length : Int) = V.int (es.length : Int)) = true := by
        have z1 := hRlen.length_eq
        have z2 := Paired.length hde
        refine decide_eq_true ?_
        congr 1
        unfold seenE
        rw [List.length_map]
        omega
      refine ⟨_, rfl, ds, _, rfl, hds3, _, rfl, d, _, rfl, hd3, rfl, _, rfl, ?_⟩
      refine (congrArg (fun b => (if b = true then _ else _)) e2).mpr (iteT ?_)
      exact ⟨_, rfl, kq _ _ s3 hlv3⟩
    · have e1 : (!((F.map (num m)).map V.int).isEmpty) = true := by
        cases F with
        | nil => exact (hF rfl).elim
        | cons u F => rfl
      rw [e1]
      refine iteT ?_
      refine ⟨_, fun σ' H' h => ⟨m, Nat.lt_succ_self m, h⟩, ?_⟩
      obtain ⟨r, hrw⟩ := rows_cons F
      have hnd : (done.flatten ++ F.map (num m)).Nodup := by
        have z := ndR
        rw [← hdone, hrw, List.flatten_append, List.flatten_cons, ← List.append_assoc] at z
        exact (List.nodup_append.mp z).1
      have hlenR : (done.flatten ++ F.map (num m)).length ≤ 1000 := by
        have z := hRlen.length_eq
        rw [← hdone, hrw, List.flatten_append, List.flatten_cons, ← List.append_assoc, List.length_append] at z
        omega
      have hdl : done.length ≤ 101 := by
        have z := congrArg List.length hdone
        rw [List.length_append, rows_len, rows_len] at z
        omega
      refine ⟨_, rfl, a, rfl, ⟨_, SqL.of ha3⟩, ?_⟩
      refine for_list (xs := (F.map (num m)).map V.int) (fun i σ H' => ∃ v5', σ = [some (.int (num l t)), some (.ref d), some (.ref ds), some (.ref lv), some (.ref a), v5', v6, v7, v8] ∧ Same H H' ∧ H' a = some (.lst ((F.map (num m)).map V.int)) ∧
        H' ds = some (.dK (seenE (done.flatten ++ (F.map (num m)).take i))) ∧ LevAt H' lv done) ⟨v5, rfl, s3, ha3, by rw [List.take_zero, List.append_nil]; exact hds3, hlv3⟩ (fun i σ H' _ z => ?_) ?_ ?_
      · obtain ⟨_, _, _, z, _⟩ := z
        exact SqL.of z
      · rintro i x σ H4 hx ⟨v5', rfl, s4, ha4, hds4, hlv4⟩
        obtain ⟨n, hn, rfl⟩ := map_at hx
        obtain ⟨u, hu, rfl⟩ := map_at hn
        have hnn : num m u ∉ done.flatten ++ (F.map (num m)).take i := fun z => by
          have z2 := hnd
          rw [← List.take_append_drop (i + 1) (F.map (num m)), take_more hn, ← List.append_assoc, ← List.append_assoc] at z2
          have z3 := (List.nodup_append.mp (List.nodup_append.mp z2).1).2.2
          exact z3 _ z _ (List.mem_singleton.mpr rfl) rfl
        obtain ⟨g, hg⟩ := laid_some (hFL u (List.mem_of_getElem? hu))
        have hde4 := paired_imp (fun _ _ (r : EnAt H _ _) => (⟨r.1, r.2.keep (Keep.of s4)⟩ : EnAt H4 _ _)) hde
        have hv := (pgv_ok (s4 _ _ hd) hde4 hg).1
        refine ⟨_, rfl, _, rfl, d, _, rfl, hv, _, rfl, iteF ?_⟩
        refine ⟨_, rfl, _, rfl, ds, none, rfl, seen_none hnn ▸ DGet.k (k := .inl (num m u)) hds4, _, rfl, iteF ?_⟩
        refine ⟨_, rfl, _, rfl, ds, _, rfl, DPut.k (k := .inl (num m u)) hds4 ?_, ?_⟩
        · unfold seenE
          rw [List.length_map, List.length_append, List.length_take]
          rw [List.length_append] at hlenR
          exact Nat.lt_of_le_of_lt (by omega : _ ≤ 1000) (by decide)
        · rw [seen_put hnn]
          refine ⟨_, rfl, fun b o e => ?_, ?_, ?_, hlv4.upd fun xs e => by rw [hds4] at e; cases e⟩
          · rw [upd_ne (nds b o e)]
            exact s4 b o e
          · rw [upd_ne (fun z => by rw [z, hds4] at ha4; cases ha4)]
            exact ha4
          · rw [upd_same, take_more hn, List.append_assoc]
      · rintro σ H4 ⟨v5', rfl, s4, ha4, hds4, vs, hlv4, hvs4⟩
        rw [List.length_map, List.take_length] at hds4
        refine ⟨_, rfl, .inl ⟨rfl, _, SqL.of hlv4⟩, _, rfl, lv, _, _, rfl, rfl, hlv4, ?_, ?_⟩
        · have := Paired.length hvs4
          exact Nat.lt_of_le_of_lt (by omega : _ ≤ 1000) (by decide)
        have nlv : ∀ b o, H b = some o → b ≠ lv := fun b o e => ne_of_none (same_new hds _ _ e) hlv
        have s5 : Same H (upd H4 lv (.lst (vs ++ [.ref a]))) := fun b o e => by rw [upd_ne (nlv b o e)]; exact s4 b o e
        have ha5 : upd H4 lv (.lst (vs ++ [.ref a])) a = some (.lst ((F.map (num m)).map V.int)) := by rw [upd_ne na]; exact ha4
        have hds5 : upd H4 lv (.lst (vs ++ [.ref a])) ds = some (.dK (seenE (done.flatten ++ F.map (num m)))) := by rw [upd_ne n1]; exact hds4
        have hlv5 : LevAt (upd H4 lv (.lst (vs ++ [.ref a]))) lv (done ++ [F.map (num m)]) := by
          refine ⟨_, upd_same, paired_snoc ⟨a, rfl, na, ha5⟩ (paired_imp (fun _ _ ⟨b, e, n, h⟩ => ⟨b, e, n, by rw [upd_ne n]; exact h⟩) hvs4)⟩
        generalize upd H4 lv (.lst (vs ++ [.ref a])) = H5 at s5 ha5 hds5 hlv5
        have hd5 := s5 _ _ hd
        have hde5 := paired_imp (fun _ _ (r : EnAt H _ _) => (⟨r.1, r.2.keep (Keep.of s5)⟩ : EnAt H5 _ _)) hde
        refine ⟨_, rfl, a, rfl, ⟨_, SqL.of ha5⟩, fun N hN => ?_⟩
        cases m with
        | zero =>
          refine lc_it (walk_list (xs := (F.map (num 0)).map V.int)) (fun i H' => Same H5 H' ∧ H' N = some (.lst [])) ⟨same_new hN, upd_same⟩ (fun i H' _ z => SqL.of (z.1 _ _ ha5)) ?_ ?_
          · rintro i x H6 H7 hi ⟨s6, hN6⟩ ⟨rfl, hx⟩
            obtain ⟨n, hn, rfl⟩ := map_at hx
            obtain ⟨u, hu, rfl⟩ := map_at hn
            obtain ⟨nx, hg⟩ := hFL u (List.mem_of_getElem? hu)
            have hde6 := paired_imp (fun _ _ (r : EnAt H5 _ _) => (⟨r.1, r.2.keep (Keep.of s6)⟩ : EnAt _ _ _)) hde5
            obtain ⟨hv, t1, q, e, ht1, _⟩ := pgv_ok (s6 _ _ hd5) hde6 hg
            refine ⟨rfl, ?_⟩
            refine ⟨_, rfl, _, rfl, d, _, rfl, hv, t1, _, _, _, e, rfl, SqT.of ht1, rfl, rfl, _, rfl, iteF ⟨s6, hN6⟩⟩
          · rintro H6 ⟨s6, hN6⟩
            refine ⟨_, rfl, false, .inl ⟨[], SqL.of hN6, rfl⟩, iteF (iteF ?_)⟩
            refine ⟨_, rfl, N, rfl, ⟨_, SqL.of hN6⟩, fun N2 hN2 => ?_⟩
            refine RU.out_it (walk_list (xs := [])) (fun i H' => Same H6 H' ∧ H' N2 = some (.lst [])) ⟨same_new hN2, upd_same⟩ (fun i H' _ z => SqL.of (z.1 _ _ hN6)) (fun i x _ _ hi => absurd hi (Nat.not_lt_zero i)) ?_
            rintro H7 ⟨s7, hN7⟩
            have s57 := s6.trans s7
            refine ⟨N2, [], _, _, _, _, done ++ [F.map (num 0)], rfl, s5.trans s57, ?_, hN7, ?_, hlv5.same s57, .inl ⟨rfl, rfl, ?_⟩⟩
            · obtain ⟨vs5, h5, _⟩ := hlv5
              exact (ne_of_none (s6 _ _ h5) hN2).symm
            · rw [List.flatten_append, List.flatten_cons, List.flatten_nil, List.append_nil]
              exact s57 _ _ hds5
            · rw [← hdone]
              rfl
        | succ m =>
          have hF0 : 0 < F.length := List.length_pos_iff.mpr hF
          obtain ⟨r2, hrw2⟩ := rows_cons (kidsF F)
          have hkl : (kidsF F).length ≤ 1000 := by
            have z := hRlen.length_eq
            have e2 : rows (m + 1) F = F.map (num (m + 1)) :: rows m (kidsF F) := rfl
            rw [← hdone, e2, hrw2, List.flatten_append, List.flatten_cons, List.flatten_cons] at z
            simp only [List.length_append, List.length_map] at z
            omega
          have hFl : F.length ≤ 1000 := by
            rw [List.length_append, List.length_map] at hlenR
            omega
          refine lc_it (walk_list (xs := (F.map (num (m + 1))).map V.int)) (fun i H' => Same H5 H' ∧ H' N = some (.lst ((F.take i).map fun u => pgv es (num (m + 1) u)))) ⟨same_new hN, upd_same⟩ (fun i H' _ z => SqL.of (z.1 _ _ ha5)) ?_ ?_
          · rintro i x H6 H7 hi ⟨s6, hN6⟩ ⟨rfl, hx⟩
            obtain ⟨n, hn, rfl⟩ := map_at hx
            obtain ⟨u, hu, rfl⟩ := map_at hn
            obtain ⟨hg, _⟩ := hFL u (List.mem_of_getElem? hu)
            have hde6 := paired_imp (fun _ _ (r : EnAt H5 _ _) => (⟨r.1, r.2.keep (Keep.of s6)⟩ : EnAt _ _ _)) hde5
            obtain ⟨hv, t1, q1, q2, e, ht1, _, _⟩ := pgv_ok (s6 _ _ hd5) hde6 hg
            refine ⟨rfl, ?_⟩
            refine ⟨_, rfl, _, rfl, d, _, rfl, hv, t1, _, _, _, e, rfl, SqT.of ht1, rfl, rfl, _, rfl, iteT ?_⟩
            refine ⟨_, rfl, _, rfl, d, _, rfl, hv, _, hN6, ?_, same_upd s6 hN, ?_⟩
            · rw [List.length_map, List.length_take]
              exact Nat.lt_of_le_of_lt (by omega : _ ≤ 1000) (by decide)
            · rw [upd_same, take_more hu, List.map_append]
              rfl
          · rintro H6 ⟨s6, hN6⟩
            rw [List.length_map, List.length_map, List.take_length] at hN6
            have e3 : true = !(F.map fun u => pgv es (num (m + 1) u)).isEmpty := by
              cases F with
              | nil => exact (hF rfl).elim
              | cons u F => rfl
            have e4 : decide (((F.map fun u => pgv es (num (m + 1) u)).length : Int) < (((F.map (num (m + 1))).map V.int).length : Int)) = false := decide_eq_false (by simp only [List.length_map]; omega)
            refine ⟨_, rfl, true, .inl ⟨_, SqL.of hN6, e3⟩, iteT ?_⟩
            refine ⟨_, rfl, N, _, rfl, .inl (SqL.of hN6), _, rfl, a, _, rfl, .inl (SqL.of (s6 _ _ ha5)), _, _, rfl, rfl, _, rfl, ?_⟩
            refine (congrArg (fun b => (if b = true then _ else _)) e4).mpr (iteF ?_)
            refine ⟨_, rfl, N, rfl, ⟨_, SqL.of hN6⟩, fun N2 hN2 => ?_⟩
            have part : ∀ i u, F[i]? = some u → (kidsF (F.take i)).length + u.kids.length ≤ 1000 := fun i u hu => by
              have z := sum_part1 (fun u : Tr (m + 1) => u.kids.length) hu
              have z2 : (kidsF F).length = (F.map fun u => u.kids.length).sum := List.length_flatMap
              have z3 : (kidsF (F.take i)).length = ((F.take i).map fun u => u.kids.length).sum := List.length_flatMap
              rw [z3]
              rw [z2] at hkl
              omega
            refine RU.out_it (walk_list (xs := F.map fun u => pgv es (num (m + 1) u))) (fun i H' => Same H6 H' ∧ H' N2 = some (.lst (((kidsF (F.take i)).map (num m)).map V.int))) ⟨same_new hN2, upd_same⟩ (fun i H' _ z => SqL.of (z.1 _ _ hN6)) ?_ ?_
            · rintro i x H7 H8 hi ⟨s7, hN7⟩ ⟨rfl, hx⟩
              obtain ⟨u, hu, rfl⟩ := map_at hx
              obtain ⟨hg, _⟩ := hFL u (List.mem_of_getElem? hu)
              have s57 := s6.trans s7
              have hde7 := paired_imp (fun _ _ (r : EnAt H5 _ _) => (⟨r.1, r.2.keep (Keep.of s57)⟩ : EnAt _ _ _)) hde5
              obtain ⟨hv, t1, q1, q2, e, ht1, _, hq2⟩ := pgv_ok (s57 _ _ hd5) hde7 hg
              have hp := part i u hu
              refine ⟨rfl, ?_⟩
              dsimp only [tYes]
              rw [if_pos rfl]
              refine ⟨_, rfl, t1, _, _, _, e, rfl, SqT.of ht1, rfl, q2, rfl, ⟨_, hq2.sq⟩, ?_⟩
              refine RU.out_it (walk_tup (xs := (u.kids.map (num m)).map V.int)) (fun j H' => Same H6 H' ∧ FzT H' q2 ((u.kids.map (num m)).map V.int) ∧ H' N2 = some (.lst (((kidsF (F.take i) ++ u.kids.take j).map (num m)).map V.int))) ⟨s7, hq2, by rw [List.take_zero, List.append_nil]; exact hN7⟩ (fun j H' _ z => z.2.1.sq) ?_ ?_
              · rintro j x H9 Ha hj ⟨s9, hq9, hN9⟩ ⟨rfl, hx⟩
                obtain ⟨n, hn, rfl⟩ := map_at hx
                obtain ⟨k, hk, rfl⟩ := map_at hn
                refine ⟨rfl, ?_⟩
                dsimp only [tYes]
                rw [if_pos rfl]
                refine ⟨_, rfl, _, hN9, ?_, same_upd s9 hN2, ?_, ?_⟩
                · rw [List.length_map, List.length_map, List.length_append, List.length_take]
                  exact Nat.lt_of_le_of_lt (by omega : _ ≤ 1000) (by decide)
                · exact hq9.keep ((Keep.refl _).upd fun u e => by rw [hN9] at e; cases e; rfl)
                · rw [upd_same, take_more hk]
                  simp
              · rintro H9 ⟨s9, hq9, hN9⟩
                rw [List.length_map, List.length_map, List.take_length] at hN9
                refine ⟨s9, ?_⟩
                have e5 : kidsF (F.take (i + 1)) = kidsF (F.take i) ++ u.kids := by
                  unfold kidsF
                  rw [take_more hu, List.flatMap_append]
                  simp
                rw [e5]
                exact hN9
            · rintro H7 ⟨s7, hN7⟩
              rw [List.length_map, List.take_length] at hN7
              have s57 := s6.trans s7
              refine ⟨N2, (kidsF F).map (num m), _, _, _, _, done ++ [F.map (num (m + 1))], rfl, s5.trans s57, ?_, hN7, ?_, hlv5.same s57, .inr ⟨m, kidsF F, rfl, rfl, ?_, ?_, ?_, ?_⟩⟩
              · obtain ⟨vs5, h5, _⟩ := hlv5
                exact (ne_of_none (s6 _ _ h5) hN2).symm
              · rw [List.flatten_append, List.flatten_cons, List.flatten_nil, List.append_nil]
                exact s57 _ _ hds5
              · intro z
                cases F with
                | nil => exact hF rfl
                | cons u F =>
                  have h1 := (hFK u (List.mem_cons_self ..)).2.2.1
                  have h2 : u.kids ++ kidsF F = [] := z
                  rw [(List.append_eq_nil_iff.mp h2).1] at h1
                  cases h1
              · intro k hk
                obtain ⟨u, hu, hk⟩ := List.mem_flatMap.mp hk
                exact (hFL u hu).2 k hk
              · intro k hk
                obtain ⟨u, hu, hk⟩ := List.mem_flatMap.mp hk
                exact (hFK u hu).2.2.2 k hk
              · rw [List.append_assoc, ← hdone]
                rfl
end
end K30

namespace K30
open PySem PySem.Spec PyProof.Rows L2 RZ HX TR
theorem fit_root {S : List (Int × Pg)} {room : Nat} {top : Bool} : ∀ {l : Nat} {t : Tr l}, Laid S l t → WfSh room l top (shp l t) → ∃ g, lkp S (num l t) = some g ∧ loS room l top ≤ Pg.parts g ∧ Pg.parts g ≤ room ∧ (Pg.isLeaf g = decide (l = 0))
  | 0, t, ⟨nx, h⟩, w => ⟨_, h, w.1, w.2, rfl⟩
  | l + 1, t, ⟨h, _⟩, w => by
    have e : (shp (l + 1) t).ks.length = t.kids.length := List.length_map ..
    have w1 := w.1
    have w2 := w.2.1
    rw [e] at w1 w2
    refine ⟨_, h, ?_, ?_, rfl⟩
    · show _ ≤ (t.kids.map (num l)).length
      rw [List.length_map]
      exact w1
    · show (t.kids.map (num l)).length ≤ _
      rw [List.length_map]
      exact w2
theorem fit_all {S : List (Int × Pg)} {room : Nat} : ∀ {l : Nat} {top : Bool} {t : Tr l}, Laid S l t → WfSh room l top (shp l t) → ∀ k ∈ nums l t, k = num l t ∨ ∃ g, lkp S k = some g ∧ (room + 1) / 2 ≤ Pg.parts g ∧ Pg.parts g ≤ room
  | 0, _, t, _, _, k, hk => .inl (List.mem_singleton.mp hk)
  | l + 1, _, t, ⟨_, hl⟩, w, k, hk => by
    rcases List.mem_cons.mp hk with hk | hk
    · exact .inl hk
    · obtain ⟨u, hu, hk⟩ := List.mem_flatMap.mp hk
      have wu : WfSh room l false (shp l u) := w.2.2 _ (List.mem_map_of_mem hu)
      refine .inr ?_
      rcases fit_all (hl u hu) wu k hk with e | h
      · obtain ⟨g, h1, h2, h3, _⟩ := fit_root (hl u hu) wu
        exact ⟨g, by rw [e]; exact h1, h2, h3⟩
      · exact h
section
variable {P : Program} {w : World} {K : PySem.W.Frag} {mg : Str → Option Value} {base : Heap}
def sp_sizes_fit : Sp := fun vs H Q _ => ∃ (room l : Nat) (t : Tr l) (S : List (Int × Pg)) (d : Addr), vs = [.int (room : Int), .int (num l t), .ref d] ∧ DctAt H d S ∧ Laid S l t ∧ WfSh room l true (shp l t) ∧ (nums l t).Nodup ∧ (S.map (·.1)).Perm (nums l t) ∧
  ∀ H', Same H H' → Q (.bl true) H'
theorem ok_sizes_fit (T : TX K mg) : FnOk P w K mg base CX0 2 (He.ga K "sizes_fit") T.fd_sizes_fit ["room", "root", "pages"] sp_sizes_fit := by
  have G_half_of : FnOk P w K mg base CX0 1 (He.ga K "half_of") T.fd_half_of ["room"] sp_half_of := ok_half_of T
  have b_half_of := b_half_of T
  have G_parts_of : FnOk P w K mg base CX0 1 (He.ga K "parts_of") T.fd_parts_of ["page"] (sp_parts_of K) := ok_parts_of T
  have b_parts_of := b_parts_of T
  refine T.F_sizes_fit.ok sc_sizes_fit (fun vs H Q E h => ?_) (fun cdv A outer st H vs Q E hr h => ?_)
  · obtain ⟨room, l, t, S, d, rfl, _⟩ := h
    rfl
  · obtain ⟨room, l, t, S, d, rfl, ⟨es, hd, hde⟩, hL, hW, nd, perm, kq⟩ := h
    refine ⟨_, PSs.nox (pss_cons (ps_lock (ps_for PassesOwn.never rfl (pi_items (pv 2)) (pg_tup rfl (pgs_cons (pg_name (i := 3) sc_sizes_fit.nd rfl (Or.inl rfl)) (pgs_cons (pg_name (i := 4) sc_sizes_fit.nd rfl (Or.inl rfl)) pgs_nil)))
 (pss_cons (ps_set (i := 5) sc_sizes_fit.nd rfl (Or.inl rfl) (pe_call G_half_of (hr.mono (by first | decide | omega)) rfl T.g_half_of T.F_half_of.kp b_half_of .nil pass0 (pa_cons (pv 0) pa_nil)))
 (Evl.pss_cut (ps_if (pt_cmpR op_eq (pv 3) (pv 1) (nomark _))
 (pss_one (ps_set (i := 5) sc_sizes_fit.nd rfl (Or.inl rfl) (pe_ifExp (pt_cmpR op_eq (pe_ix ix_tup (pv 4) pe_int (fun _ _ => rfl)) pe_str (nomark _)) pe_int pe_int)))
 pss_nil)
 (pss_one (ps_if (pt_not (pt_chain op_le op_le (pv 5) (pe_callB call_len_seq rfl T.n_len PySem.boot_len (pa_cons (pe_call G_parts_of (hr.mono (by first | decide | omega)) rfl T.g_parts_of T.F_parts_of.kp b_parts_of .nil pass0 (pa_cons (pv 4) pa_nil)) pa_nil)) (pv 0)))
 (pss_one (ps_ret pe_bl))
 pss_nil))))))
 (pss_one (ps_ret pe_bl))), ?_⟩
    refine ⟨d, .dK es, hd, ?_, fun od => ?_⟩
    · exact True.intro
    have hdf : upd H d (.frz od (.dK es)) d = some (.frz od (.dK es)) := upd_same
    have sf : ∀ b o, b ≠ d → H b = some o → upd H d (.frz od (.dK es)) b = some o := fun b o n e => by rw [upd_ne n]; exact e
    generalize upd H d (.frz od (.dK es)) = H1 at hdf sf
    refine ⟨_, rfl, d, od, es, rfl, hdf, ?_⟩
    refine for_it (walk_items (kvs := es)) (fun i σ H' => ∃ v3 v4 v5, σ = [some (.int (room : Int)), some (.int (num l t)), some (.ref d), v3, v4, v5] ∧ Same H1 H') ⟨_, _, _, rfl, Same.refl H1⟩ (fun i σ H' _ z => ?_) ?_ ?_
    · obtain ⟨_, _, _, _, z⟩ := z
      exact z _ _ hdf
    · rintro i x σ H2 H3 hi ⟨v3, v4, v5, rfl, s2⟩ ⟨tz, x1, x2, rfl, htz, rfl, e1, e2⟩
      obtain ⟨e, he⟩ : ∃ e, es[i]? = some e := ⟨_, List.getElem?_eq_getElem hi⟩
      obtain ⟨q, hq, r1, r2⟩ := pget1 hde he
      have hq2 := List.mem_of_getElem? hq
      have ndS : (S.map (·.1)).Nodup := perm.nodup_iff.mpr nd
      have hk : lkp S q.1 = some q.2 := mem_lkp ndS hq2
      have hn : q.1 ∈ nums l t := perm.mem_iff.mp (List.mem_map_of_mem hq2)
      dsimp only at e1 e2
      rw [he] at e1 e2
      obtain rfl := Option.some.inj e1
      obtain rfl := Option.some.inj e2
      obtain ⟨ek, ev⟩ := e
      dsimp only at r1 r2
      subst r1
      have k13 : Keep H (upd H2 tz (.tup [kV (.inl q.1), ev])) := ⟨fun b u tu e => same_new htz _ _ (s2 _ _ (sf b _ (fun z => by rw [z, hd] at e; cases e; cases tu) e))⟩
      have r3 := r2.keep k13
      have s3 : Same H1 (upd H2 tz (.tup [kV (.inl q.1), ev])) := s2.trans (same_new htz)
      have ht3 : upd H2 tz (.tup [kV (.inl q.1), ev]) tz = some (.tup [kV (.inl q.1), ev]) := upd_same
      generalize upd H2 tz (.tup [kV (.inl q.1), ev]) = H3 at r3 s3 ht3
      refine ⟨tz, _, rfl, SqT.of ht3, rfl, _, _, rfl, _, _, rfl, rfl, ?_⟩
      refine ⟨_, rfl, room, rfl, ?_⟩
      refine ⟨fun σ' H' => ∃ least : Nat, σ' = [some (.int (room : Int)), some (.int (num l t)), some (.ref d), some (.int q.1), some ev, some (.int (least : Int))] ∧ H' = H3 ∧ least ≤ Pg.parts q.2 ∧ Pg.parts q.2 ≤ room, ?_, ?_⟩
      · refine ⟨_, rfl, _, rfl, rfl, _, rfl, ?_⟩
        obtain ⟨k, g⟩ := q
        by_cases c : k = num l t
        · have e3 : decide (V.int k = V.int (num l t)) = true := decide_eq_true (by rw [c])
          refine (congrArg (fun b => (if b = true then _ else _)) e3).mpr (iteT ?_)
          obtain ⟨g', h1, h2, h3, h4⟩ := fit_root hL hW
          rw [← c, hk] at h1
          cases h1
          cases g with
          | leaf ps nx =>
            obtain ⟨t1, q1, rfl, ht1, _⟩ := r3
            refine ⟨_, rfl, t1, _, _, _, rfl, rfl, SqT.of ht1, rfl, rfl, _, rfl, iteT ?_⟩
            exact ⟨0, rfl, rfl, Nat.zero_le _, h3⟩
          | node ks kids =>
            obtain ⟨t1, q1, q2, rfl, ht1, _⟩ := r3
            refine ⟨_, rfl, t1, _, _, _, rfl, rfl, SqT.of ht1, rfl, rfl, _, rfl, iteF ?_⟩
            have l0 : ¬ l = 0 := of_decide_eq_false h4.symm
            refine ⟨2, rfl, rfl, ?_, h3⟩
            unfold loS at h2
            rw [if_pos rfl, if_neg l0] at h2
            exact h2
        · have e3 : decide (V.int k = V.int (num l t)) = false := decide_eq_false fun z => c (by injection z)
          refine (congrArg (fun b => (if b = true then _ else _)) e3).mpr (iteF ?_)
          rcases fit_all hL hW k hn with z | ⟨g', h1, h2, h3⟩
          · exact (c z).elim
          · rw [hk] at h1
            cases h1
            exact ⟨_, rfl, rfl, h2, h3⟩
      · rintro σ' H' ⟨least, rfl, rfl, h1, h2⟩
        refine ⟨_, rfl, _, rfl, ev, q.2, rfl, r3, fun a xs ha hx => ⟨a, _, rfl, .inr ha, _, _, rfl, rfl, true, congrArg V.bl (decide_eq_true (by omega)), iteT ?_⟩⟩
        refine ⟨_, rfl, _, _, rfl, rfl, true, congrArg V.bl (decide_eq_true (by omega)), iteF ?_⟩
        exact ⟨_, _, _, rfl, s3⟩
    · rintro σ H2 ⟨v3, v4, v5, rfl, s2⟩
      refine ⟨s2 _ _ hdf, kq _ fun b o e => ?_⟩
      by_cases c : b = d
      · subst c
        rw [hd] at e
        rw [upd_same]
        exact e
      · rw [upd_ne c]
        exact s2 _ _ (sf _ _ c e)
end
end K30

namespace K30
open PySem PySem.Spec PyProof.Rows L2 RZ HX TR
section
variable {P : Program} {w : World} {K : PySem.W.Frag} {mg : Str → Option Value} {base : Heap}
def sp_nexts_fit : Sp := fun vs H Q _ => ∃ (L : List Int) (S : List (Int × Pg)) (a d : Addr), vs = [.ref a, .ref d] ∧ H a = some (.lst (L.map V.int)) ∧ DctAt H d S ∧ NextOk S L L.length ∧ L ≠ [] ∧ L.length ≤ 1000 ∧ ∀ H', Same H H' → Q (.bl true) H'
theorem ok_nexts_fit (T : TX K mg) : FnOk P w K mg base CX0 1 (He.ga K "nexts_fit") T.fd_nexts_fit ["leaves", "pages"] sp_nexts_fit := by
  refine T.F_nexts_fit.ok sc_nexts_fit (fun vs H Q E h => ?_) (fun cdv A outer st H vs Q E hr h => ?_)
  · obtain ⟨L, S, a, d, rfl, _⟩ := h
    rfl
  · obtain ⟨L, S, a, d, rfl, ha, hd, hN, hne, few, kq⟩ := h
    refine ⟨_, PSs.nox (pss_cons (ps_setLc (i := 2) (own := [("number", 3)]) (g := gName 3) (tt := tYes) rfl sc_nexts_fit.nd rfl rfl (sw_true rfl rfl rfl (by decide +kernel)) (pi_list (pv 0)) (blkOk_by (own := [("number", 3)]) (N := ["leaves", "pages", "nexts", "number"]) (sc := defScope s_nexts_fit) (by decide +kernel)) (fun _ _ _ _ _ => (pg_name (i := 3) sc_nexts_fit.nd rfl (Or.inl rfl))) (fun _ _ _ _ _ => pts_nil) (fun _ _ _ _ _ => (pe_ix (ixt K) (pe_dget (hu_of hr) (pv 1) (pv 3) (fun _ _ => rfl)) pe_int (fun _ _ => rfl))))
 (pss_one (ps_ret (pe_cmpR (op_eqD hr.units) (pv 2) (pe_lst (StX.pa_star (pe_slice sl_list (pv 0) (po_some pe_int) po_none) (pa_cons pe_int pa_nil))) (nomark _))))), ?_⟩
    refine ⟨_, rfl, a, rfl, ⟨_, SqL.of ha⟩, fun D hD => ?_⟩
    refine lc_it (walk_list (xs := L.map V.int)) (fun i H' => Same H H' ∧ H' D = some (.lst (((L.drop 1 ++ [0]).take i).map V.int))) ⟨same_new hD, upd_same⟩ (fun i H' _ z => SqL.of (z.1 _ _ ha)) ?_ ?_
    · rintro i x H3 H4 hi ⟨s3, hD3⟩ ⟨rfl, hx⟩
      obtain ⟨n, hn, rfl⟩ := map_at hx
      rw [List.length_map] at hi
      obtain ⟨ps, hk⟩ := hN i n hi hn
      obtain ⟨v, hv, t1, q, rfl, ht1, _⟩ := (hd.same s3).get hk
      refine ⟨rfl, ?_⟩
      dsimp only [tYes]
      rw [if_pos rfl]
      refine ⟨_, rfl, _, rfl, d, _, rfl, hv, t1, _, _, _, rfl, rfl, SqT.of ht1, rfl, _, hD3, ?_, same_upd s3 hD, ?_⟩
      · rw [List.length_map, List.length_take]
        exact Nat.lt_of_le_of_lt (by omega : _ ≤ 1000) (by decide)
      · rw [upd_same, take_more (foll hi), List.map_append]
        rfl
    · rintro H3 ⟨s3, hD3⟩
      have e0 : (L.map V.int).length = (L.drop 1 ++ [0]).length := by
        have : 0 < L.length := List.length_pos_iff.mpr hne
        rw [List.length_map, List.length_append, List.length_drop]
        show _ = _ - 1 + 1
        omega
      rw [e0, List.take_length] at hD3
      have ecut : cutV (L.map V.int) (some 1) none = (L.drop 1).map V.int := by
        rw [List.map_drop]
        exact cut_from' (n := 1)
      refine ⟨_, rfl, _, rfl, 1, rfl, a, _, rfl, SqL.of (s3 _ _ ha), fun b hb => ?_⟩
      rw [ecut]
      have s4 := s3.trans (same_new (o := .lst ((L.drop 1).map V.int)) hb)
      have hD4 := same_new (o := .lst ((L.drop 1).map V.int)) hb _ _ hD3
      refine ⟨b, _, rfl, .inr (SqL.of upd_same), ?_, fun c hc => ?_⟩
      · rw [List.length_append, List.length_map, List.length_drop]
        exact Nat.le_trans (by show _ + 1 ≤ 1001; omega) (by decide)
      have e1 : ((L.drop 1).map V.int ++ [V.int 0]) = (L.drop 1 ++ [0]).map V.int := by rw [List.map_append]; rfl
      rw [e1]
      generalize upd H3 b (.lst ((L.drop 1).map V.int)) = H4 at s4 hD4 hc
      refine ⟨.list ((L.drop 1 ++ [0]).map PyData.int), .list ((L.drop 1 ++ [0]).map PyData.int), .lst (SqL.of (same_new hc _ _ hD4)) (dpa_ints _), .lst (SqL.of upd_same) (dpa_ints _), shaped_ints _, shaped_ints _, ?_⟩
      rw [eqv_ints, decide_eq_true rfl]
      exact kq _ (s4.trans (same_new hc))
end
end K30

namespace K30
open PySem PySem.Spec PyProof.Rows L2 RZ HX TR
theorem KBs.at {α : Type} {R : α → Int → Int → Prop} {hi : Int} : ∀ {kids : List α} {ks : List Int} {lo : Int}, KBs R lo ks kids hi → ∀ {i : Nat} {k : α}, kids[i]? = some k → ∃ a b, (lo :: ks)[i]? = some a ∧ (ks ++ [hi])[i]? = some b ∧ R k a b
  | [], ks, _, h, _, _, _ => by cases ks <;> exact h.elim
  | [x], [], lo, h, i, k, e => by
    cases i with
    | zero => cases e; exact ⟨lo, hi, rfl, rfl, h⟩
    | succ i => simp at e
  | _ :: _ :: _, [], _, h, _, _, _ => h.elim
  | x :: kids, c :: ks, lo, h, i, k, e => by
    cases i with
    | zero => cases e; exact ⟨lo, c, rfl, rfl, h.1⟩
    | succ i => exact KBs.at h.2 (i := i) e
def Has (H : Hp) (b : Addr) (k lo hi : Int) : Prop := ∃ es t', H b = some (.dK es) ∧ valV es (.inl k) = some (.ref t') ∧ H t' = some (.tup [.int lo, .int hi])
theorem Has.same {H H' : Hp} {b : Addr} {k lo hi : Int} (s : Same H H') (h : Has H b k lo hi) : Has H' b k lo hi := by
  obtain ⟨es, t', h1, h2, h3⟩ := h
  exact ⟨es, t', s _ _ h1, h2, s _ _ h3⟩
theorem Has.put {H : Hp} {b : Addr} {k k' lo hi : Int} {es : List (Key × V)} {v : V} (h : Has H b k lo hi) (e : H b = some (.dK es)) (n : k ≠ k') : Has (upd H b (.dK (putK es (.inl k') v))) b k lo hi := by
  obtain ⟨es', t', h1, h2, h3⟩ := h
  rw [e] at h1
  cases h1
  refine ⟨_, t', upd_same, ?_, ?_⟩
  · rw [valV_put, if_neg (fun z => n (by injection z))]
    exact h2
  · rw [upd_ne (fun z => by rw [z, e] at h3; cases h3)]
    exact h3
theorem Has.new {H : Hp} {b t' : Addr} {k lo hi : Int} {es : List (Key × V)} (e : H b = some (.dK es)) (ht : H t' = some (.tup [.int lo, .int hi])) : Has (upd H b (.dK (putK es (.inl k) (.ref t')))) b k lo hi := by
  refine ⟨_, t', upd_same, ?_, ?_⟩
  · rw [valV_put, if_pos rfl]
  · rw [upd_ne (fun z => by rw [z, e] at ht; cases ht)]
    exact ht
def BK (H : Hp) (b : Addr) (m : Nat) (u : Tr m) : Prop := ∃ lo hi, Has H b (num m u) lo hi ∧ KeyB m u lo hi
theorem BK.same {H H' : Hp} {b : Addr} {m : Nat} {u : Tr m} (s : Same H H') (h : BK H b m u) : BK H' b m u := by
  obtain ⟨lo, hi, h1, h2⟩ := h
  exact ⟨lo, hi, h1.same s, h2⟩
theorem BK.put {H : Hp} {b : Addr} {m : Nat} {u : Tr m} {k' : Int} {es : List (Key × V)} {v : V} (h : BK H b m u) (e : H b = some (.dK es)) (n : num m u ≠ k') : BK (upd H b (.dK (putK es (.inl k') v))) b m u := by
  obtain ⟨lo, hi, h1, h2⟩ := h
  exact ⟨lo, hi, h1.put e n, h2⟩
theorem cut_last {xs : List V} {n : Nat} (h : xs.length = n + 1) : cutV xs none (some (-1)) = xs.take n := by
  have e1 : HT.sIx xs.length 0 none = 0 := rfl
  have e2 : HT.sIx xs.length xs.length (some (-1)) = n := by
    show (if (-1 : Int) < 0 then ((-1 : Int) + (xs.length : Int)).toNat else min (-1 : Int).toNat xs.length) = n
    rw [if_pos (by decide)]
    omega
  unfold cutV
  rw [e1, e2]
  rfl
section
variable {P : Program} {w : World} {K : PySem.W.Frag} {mg : Str → Option Value} {base : Heap}
/-- what the last row's pages may hold -/
def BndAt (H : Hp) (b : Addr) (F : List (Tr 0)) : Prop := ∀ u ∈ F, BK H b 0 u
def sp_bounds_of : Sp := fun vs H Q _ => ∃ (l : Nat) (t : Tr l) (S : List (Int × Pg)) (lv d : Addr), vs = [.ref lv, .ref d] ∧ LevAt H lv (rows l [t]) ∧ DctAt H d S ∧ Laid S l t ∧ KeyOk l t ∧ KeyB l t 0 1000000001 ∧ (nums l t).Nodup ∧ (nums l t).length ≤ 1000 ∧ l ≤ 100 ∧
  ∀ (H' : Hp) (b : Addr) (F : List (Tr 0)), Same H H' → (rows l [t]).getLast? = some (F.map (num 0)) → (∀ u ∈ F, Laid S 0 u) → BndAt H' b F → Q (.ref b) H'
theorem ok_bounds_of (T : TX K mg) : FnOk P w K mg base CX0 1 (He.ga K "bounds_of") T.fd_bounds_of ["levels", "pages"] sp_bounds_of := by
  refine T.F_bounds_of.ok sc_bounds_of (fun vs H Q E h => ?_) (fun cdv A outer st H vs Q E hr h => ?_)
  · obtain ⟨l, t, S, lv, d, rfl, _⟩ := h
    rfl
  · obtain ⟨l, t, S, lv, d, rfl, ⟨vs, hlv, hvs⟩, ⟨es, hd, hde⟩, hL, hK, hB, nd, few, hl, kq⟩ := h
    refine ⟨_, PSs.nox (pss_cons (ps_set (i := 2) sc_bounds_of.nd rfl (Or.inl rfl) (RU.pe_dict1 (pe_ix ix_list (pe_ix ix_list (pv 0) pe_int (fun _ _ => rfl)) pe_int (fun _ _ => rfl)) (pe_tup (pa_cons pe_int (pa_cons (pe_op op_add (pe_gint T.g_GREATEST) pe_int) pa_nil)))))
 (pss_cons (ps_for PassesOwn.never rfl (pi_list (pe_slice sl_list (pv 0) po_none (po_some (pe_un un_neg pe_int)))) (pg_name (i := 3) sc_bounds_of.nd rfl (Or.inl rfl))
 (pss_one (ps_for PassesOwn.never rfl (pi_list (pv 3)) (pg_name (i := 4) sc_bounds_of.nd rfl (Or.inl rfl))
 (pss_cons (ps_asg (pe_dget (hu_of hr) (pv 2) (pv 4) (fun _ _ => rfl)) (pg_tup rfl (pgs_cons (pg_name (i := 5) sc_bounds_of.nd rfl (Or.inl rfl)) (pgs_cons (pg_name (i := 6) sc_bounds_of.nd rfl (Or.inl rfl)) pgs_nil))))
 (pss_cons (ps_asg (pe_dget (hu_of hr) (pv 1) (pv 4) (fun _ _ => rfl)) (pg_tup rfl (pgs_cons (pg_name (i := 7) sc_bounds_of.nd rfl (Or.inl rfl)) (pgs_cons (pg_name (i := 8) sc_bounds_of.nd rfl (Or.inl rfl)) (pgs_cons (pg_name (i := 9) sc_bounds_of.nd rfl (Or.inl rfl)) pgs_nil)))))
 (pss_one (ps_for PassesOwn.never rfl (RU.pi_zip3 rfl T.n_zip (pa_cons (pv 9) (pa_cons (pe_tup (pa_cons (pv 5) (StX.pa_star (pv 8) pa_nil))) (pa_cons (pe_tup (StX.pa_star (pv 8) (pa_cons (pv 6) pa_nil))) pa_nil)))) (pg_tup rfl (pgs_cons (pg_name (i := 10) sc_bounds_of.nd rfl (Or.inl rfl)) (pgs_cons (pg_name (i := 11) sc_bounds_of.nd rfl (Or.inl rfl)) (pgs_cons (pg_name (i := 12) sc_bounds_of.nd rfl (Or.inl rfl)) pgs_nil))))
 (pss_one (ps_dput (hu_of hr) (pv 2) (pv 10) (pe_tup (pa_cons (pv 11) (pa_cons (pv 12) pa_nil))) rfl)))))))))
 (pss_one (ps_ret (pv 2))))), ?_⟩
    have hRlen : (rows l [t]).flatten.Perm (nums l t) := by
      have z := rows_perm [t]
      simpa using z
    have ndR : (rows l [t]).flatten.Nodup := hRlen.nodup_iff.mpr nd
    have lenR := hRlen.length_eq
    obtain ⟨r, hr1⟩ := rows_cons [t]
    have hvl : vs.length = l + 1 := by rw [Paired.length hvs, rows_len]
    obtain ⟨x0, hx0, a0, e0, _, ha0⟩ := pget2 hvs (i := 0) (y := [num l t]) (by rw [hr1]; rfl)
    subst e0
    refine fun b hb => ?_
    have sb : Same H (upd H b (.dK [])) := same_new hb
    have hb1 : upd H b (.dK []) b = some (.dK []) := upd_same
    generalize upd H b (.dK []) = H1 at sb hb1
    refine ⟨_, rfl, lv, _, _, _, rfl, rfl, SqL.of (sb _ _ hlv), at_of hx0 rfl, a0, _, _, _, rfl, rfl, SqL.of (sb _ _ ha0), rfl, _, _, rfl, rfl, by show 2 ≤ sizeLine; decide, fun t' ht' => ?_⟩
    refine ⟨same_new ht' _ _ hb1, [(.inl (num l t), .ref t')], rfl, (show 1 ≤ 15 by decide), ?_⟩
    have ht2 : upd H1 t' (.tup [.int 0, .int 1000000001]) t' = some (.tup [.int 0, .int 1000000001]) := upd_same
    have hb2 := same_new (o := .tup [.int 0, .int 1000000001]) ht' _ _ hb1
    have s2 := sb.trans (same_new (o := .tup [.int 0, .int 1000000001]) ht')
    show gName 2 (.ref b) _ (L2.upd (upd H1 t' (.tup [.int 0, .int 1000000001])) b (.dK (putK [] (.inl (num l t)) (.ref t')))) _
    generalize upd H1 t' (.tup [.int 0, .int 1000000001]) = H2 at ht2 hb2 s2
    have hroot : Has (upd H2 b (.dK (putK [] (.inl (num l t)) (.ref t')))) b (num l t) 0 1000000001 := Has.new hb2 ht2
    have s3 : Same H (upd H2 b (.dK (putK [] (.inl (num l t)) (.ref t')))) := fun c o e => by
      rw [upd_ne (ne_of_none e hb)]
      exact s2 c o e
    have hb3 : upd H2 b (.dK (putK [] (.inl (num l t)) (.ref t'))) b = some (.dK [(.inl (num l t), .ref t')]) := upd_same
    generalize upd H2 b (.dK (putK [] (.inl (num l t)) (.ref t'))) = H3 at hroot s3 hb3
    refine ⟨_, rfl, 1, rfl, _, rfl, lv, _, rfl, SqL.of (s3 _ _ hlv), fun q hq => ?_⟩
    rw [cut_last hvl]
    have s4 : Same H3 (upd H3 q (.lst (vs.take l))) := same_new hq
    have hq4 : upd H3 q (.lst (vs.take l)) q = some (.lst (vs.take l)) := upd_same
    have nqb : q ≠ b := (ne_of_none hb3 hq).symm
    generalize upd H3 q (.lst (vs.take l)) = H4 at s4 hq4
    refine ⟨q, rfl, ⟨_, SqL.of hq4⟩, ?_⟩
    have hbk0 : BK H4 b l t := ⟨0, 1000000001, hroot.same s4, hB⟩
    have s04 : Same H H4 := s3.trans s4
    have bnd : ∀ {m : Nat} {done : List (List Int)} {F : List (Tr (m + 1))}, done ++ rows (m + 1) F = rows l [t] → done.flatten.length + F.length + (kidsF F).length ≤ 1000 := fun {m done F} e => by
      have z := lenR
      obtain ⟨r2, hr2⟩ := rows_cons (kidsF F)
      have e2 : rows (m + 1) F = F.map (num (m + 1)) :: rows m (kidsF F) := rfl
      rw [← e, e2, hr2, List.flatten_append, List.flatten_cons, List.flatten_cons] at z
      simp only [List.length_append, List.length_map] at z
      omega
    have fr : ∀ {H'}, (∀ c o, c ≠ b → H4 c = some o → H' c = some o) → Same H H' := fun f c o e => f c o (ne_of_none e hb) (s04 c o e)
    refine for_list (xs := vs.take l) (fun j σ H' => ∃ v3 v4 v5 v6 v7 v8 v9 v10 v11 v12, σ = [some (.ref lv), some (.ref d), some (.ref b), v3, v4, v5, v6, v7, v8, v9, v10, v11, v12] ∧ (∀ c o, c ≠ b → H4 c = some o → H' c = some o) ∧
      ∃ (m : Nat) (F : List (Tr m)) (done : List (List Int)) (es' : List (Key × V)), done.length = j ∧ done ++ rows m F = rows l [t] ∧ H' b = some (.dK es') ∧ es'.length ≤ done.flatten.length + F.length ∧ ∀ u ∈ F, Laid S m u ∧ KeyOk m u ∧ BK H' b m u)
      ⟨_, _, _, _, _, _, _, _, _, _, rfl, fun _ _ _ e => e, l, [t], [], _, rfl, rfl, s4 _ _ hb3, Nat.le_refl _, fun u hu => by rw [List.mem_singleton.mp hu]; exact ⟨hL, hK, hbk0⟩⟩ (fun j σ H' _ z => ?_) ?_ ?_
    · obtain ⟨_, _, _, _, _, _, _, _, _, _, _, f, _⟩ := z
      exact SqL.of (f _ _ nqb hq4)
    · rintro j x σ H5 hx ⟨v3, v4, v5, v6, v7, v8, v9, v10, v11, v12, rfl, f5, m0, F, done, es5, hj, hdone, hb5, hes5, hF⟩
      have hjl : j < l := by
        have z := (List.getElem?_eq_some_iff.mp hx).1
        rw [List.length_take] at z
        omega
      rw [List.getElem?_take_of_lt hjl] at hx
      obtain ⟨m, rfl⟩ : ∃ m, m0 = m + 1 := ⟨m0 - 1, by
        have z := congrArg List.length hdone
        rw [List.length_append, rows_len, rows_len] at z
        omega⟩
      have hrow : (rows l [t])[j]? = some (F.map (num (m + 1))) := by
        rw [← hdone, List.getElem?_append_right (by omega), hj, Nat.sub_self]
        rfl
      obtain ⟨x', hx', aj, rfl, _, haj⟩ := pget2 hvs hrow
      rw [hx'] at hx
      obtain rfl := Option.some.inj hx
      have naj : aj ≠ b := ne_of_none haj hb
      have haj5 := fr f5 _ _ haj
      have hb1000 := bnd hdone
      have hnd : (F.map (num (m + 1)) ++ (kidsF F).map (num m)).Nodup := by
        have z := ndR
        obtain ⟨r2, hr2⟩ := rows_cons (kidsF F)
        have e2 : rows (m + 1) F = F.map (num (m + 1)) :: rows m (kidsF F) := rfl
        rw [← hdone, e2, hr2, List.flatten_append, List.flatten_cons, List.flatten_cons, ← List.append_assoc (F.map _)] at z
        exact (List.nodup_append.mp (List.nodup_append.mp z).2.1).1
      refine ⟨_, rfl, aj, rfl, ⟨_, SqL.of haj5⟩, ?_⟩
      refine for_list (xs := (F.map (num (m + 1))).map V.int) (fun i σ H' => ∃ v4 v5 v6 v7 v8 v9 v10 v11 v12, σ = [some (.ref lv), some (.ref d), some (.ref b), some (.ref aj), v4, v5, v6, v7, v8, v9, v10, v11, v12] ∧ (∀ c o, c ≠ b → H4 c = some o → H' c = some o) ∧
        ∃ es', H' b = some (.dK es') ∧ es'.length ≤ done.flatten.length + F.length + (kidsF (F.take i)).length ∧ (∀ u ∈ F.drop i, BK H' b (m + 1) u) ∧ ∀ k ∈ kidsF (F.take i), BK H' b m k)
        ⟨_, _, _, _, _, _, _, _, _, rfl, f5, es5, hb5, by omega, fun u hu => (hF u hu).2.2, fun k hk => nomatch hk⟩ (fun i σ H' _ z => ?_) ?_ ?_
      · obtain ⟨_, _, _, _, _, _, _, _, _, _, f, _⟩ := z
        exact SqL.of (fr f _ _ haj)
      · rintro i x σ H6 hx ⟨v4, v5, v6, v7, v8, v9, v10, v11, v12, rfl, f6, es6, hb6, hes6, hd6, hk6⟩
        obtain ⟨n, hn, rfl⟩ := map_at hx
        obtain ⟨u, hu, rfl⟩ := map_at hn
        have mu := List.mem_of_getElem? hu
        have hiF := (List.getElem?_eq_some_iff.mp hu).1
        have edrop : F.drop i = u :: F.drop (i + 1) := by
          rw [List.drop_eq_getElem_cons hiF, (List.getElem?_eq_some_iff.mp hu).2]
        obtain ⟨lo, hi, ⟨es6', t6, hb6', hv6, ht6⟩, hKB⟩ := hd6 u (by rw [edrop]; exact List.mem_cons_self ..)
        rw [hb6] at hb6'
        cases hb6'
        obtain ⟨⟨hg, hgk⟩, hKu, _⟩ := hF u mu
        have hde6 := paired_imp (fun _ _ (r : EnAt H _ _) => (⟨r.1, r.2.keep (Keep.of (fr f6))⟩ : EnAt H6 _ _)) hde
        obtain ⟨hv, t1, q1, q2, e1, ht1, hq1, hq2⟩ := pgv_ok (fr f6 _ _ hd) hde6 hg
        have hkl : u.keys.length + 1 = u.kids.length := hKB.len
        have part : (kidsF (F.take i)).length + u.kids.length ≤ (kidsF F).length := by
          have z := sum_part1 (fun u : Tr (m + 1) => u.kids.length) hu
          have z2 : (kidsF F).length = (F.map fun u => u.kids.length).sum := List.length_flatMap
          have z3 : (kidsF (F.take i)).length = ((F.take i).map fun u => u.kids.length).sum := List.length_flatMap
          rw [z3, z2]
          exact z
        have ekF : kidsF F = kidsF (F.take i) ++ (u.kids ++ kidsF (F.drop (i + 1))) := by
          have z : F = F.take i ++ (u :: F.drop (i + 1)) := by rw [← edrop, List.take_append_drop]
          conv => lhs; rw [z]
          unfold kidsF
          rw [List.flatMap_append, List.flatMap_cons]
        refine ⟨_, rfl, _, rfl, b, .ref t6, rfl, hv6 ▸ DGet.k (k := .inl (num (m + 1) u)) hb6, t6, _, rfl, SqT.of ht6, rfl, _, _, rfl, _, _, rfl, rfl, ?_⟩
        refine ⟨_, rfl, _, rfl, d, _, rfl, hv, t1, _, e1, SqT.of ht1, rfl, _, _, rfl, _, _, rfl, _, _, rfl, rfl, ?_⟩
        refine ⟨_, rfl, _, rfl, _, rfl, q1, _, rfl, .inl (SqT.of hq1), ?_, fun y1 hy1 => ?_⟩
        · rw [List.length_cons, List.length_append, List.length_map]
          exact Nat.le_trans (by show _ ≤ 1001; simp only [List.length_nil]; omega) (by decide)
        have hy1' : upd H6 y1 (.tup (V.int lo :: (u.keys.map V.int ++ []))) y1 = some (.tup ((lo :: u.keys).map V.int)) := by
          rw [upd_same]
          simp
        have s7 : Same H6 (upd H6 y1 (.tup (V.int lo :: (u.keys.map V.int ++ [])))) := same_new hy1
        generalize upd H6 y1 (.tup (V.int lo :: (u.keys.map V.int ++ []))) = H7 at hy1' s7
        refine ⟨_, rfl, q1, _, rfl, .inl (SqT.of (s7 _ _ hq1)), _, rfl, ?_, fun y2 hy2 => ?_⟩
        · rw [List.length_append, List.length_map]
          exact Nat.le_trans (by show _ + 1 ≤ 1001; omega) (by decide)
        have hy2' : upd H7 y2 (.tup (u.keys.map V.int ++ [V.int hi])) y2 = some (.tup ((u.keys ++ [hi]).map V.int)) := by
          rw [upd_same, List.map_append]
          rfl
        have s8 := s7.trans (same_new (o := .tup (u.keys.map V.int ++ [V.int hi])) hy2)
        have hy18 := same_new (o := .tup (u.keys.map V.int ++ [V.int hi])) hy2 _ _ hy1'
        generalize upd H7 y2 (.tup (u.keys.map V.int ++ [V.int hi])) = H8 at hy2' s8 hy18
        have nb : ∀ {q : Addr} {xs : List V}, H8 q = some (.tup xs) → q ≠ b := fun {q xs} h e => by
          rw [e, s8 _ _ hb6] at h
          cases h
        refine ⟨q2, y1, y2, _, _, _, rfl, (hq2.same s8).sq, SqT.of hy18, SqT.of hy2', ?_⟩
        have lz : u.kids.length = min (min ((u.kids.map (num m)).map V.int).length ((lo :: u.keys).map V.int).length) ((u.keys ++ [hi]).map V.int).length := by
          simp only [List.length_map, List.length_append, List.length_cons, List.length_nil]
          omega
        refine for_it (RU.walk_zip3 lz) (fun j σ H' => ∃ v10 v11 v12, σ = [some (.ref lv), some (.ref d), some (.ref b), some (.ref aj), some (.int (num (m + 1) u)), some (.int lo), some (.int hi), some (.str "node"), some (.ref q1), some (.ref q2), v10, v11, v12] ∧ (∀ c o, c ≠ b → H8 c = some o → H' c = some o) ∧
          ∃ es', H' b = some (.dK es') ∧ es'.length ≤ done.flatten.length + F.length + (kidsF (F.take i)).length + j ∧ (∀ w ∈ F.drop (i + 1), BK H' b (m + 1) w) ∧ ∀ k ∈ kidsF (F.take i) ++ u.kids.take j, BK H' b m k)
          ⟨_, _, _, rfl, fun _ _ _ e => e, es6, s8 _ _ hb6, hes6, fun w hw => (hd6 w (by rw [edrop]; exact List.mem_cons_of_mem _ hw)).same s8, fun k hk => (hk6 k (by rw [List.take_zero, List.append_nil] at hk; exact hk)).same s8⟩ (fun j σ H' _ z => ?_) ?_ ?_
        · obtain ⟨_, _, _, _, f, _⟩ := z
          exact ⟨(FzT.keep (Keep.but (p := b) f fun u e => by rw [s8 _ _ hb6] at e; cases e; rfl) (hq2.same s8)).sq, SqT.of (f _ _ (nb hy18) hy18), SqT.of (f _ _ (nb hy2') hy2')⟩
        · rintro j x σ H9 Ha hj ⟨v10, v11, v12, rfl, f9, es9, hb9, hes9, hd9, hk9⟩ ⟨tz, x1, x2, x3, rfl, htz, rfl, g1, g2, g3⟩
          obtain ⟨n, hn, rfl⟩ := map_at g1
          obtain ⟨k, hk, rfl⟩ := map_at hn
          obtain ⟨a', b', ha', hb', hR⟩ := KBs.at hKB hk
          obtain ⟨a2, ha2, rfl⟩ := map_at g2
          obtain ⟨b2, hb2, rfl⟩ := map_at g3
          rw [ha'] at ha2
          rw [hb'] at hb2
          obtain rfl := Option.some.inj ha2
          obtain rfl := Option.some.inj hb2
          refine ⟨tz, _, rfl, SqT.of upd_same, rfl, _, _, rfl, _, _, rfl, _, _, rfl, rfl, ?_⟩
          refine ⟨_, rfl, _, rfl, by show 2 ≤ sizeLine; decide, fun t7 ht7 => ?_⟩
          have sA := (same_new (o := .tup [V.int (num m k), .int a', .int b']) htz).trans (same_new (o := .tup [.int a', .int b']) ht7)
          have ht7' : upd (upd H9 tz (.tup [V.int (num m k), .int a', .int b'])) t7 (.tup [.int a', .int b']) t7 = some (.tup [.int a', .int b']) := upd_same
          generalize upd (upd H9 tz (.tup [V.int (num m k), .int a', .int b'])) t7 (.tup [.int a', .int b']) = HB at sA ht7'
          have hbB := sA _ _ hb9
          refine ⟨_, rfl, _, rfl, b, _, rfl, DPut.k (k := .inl (num m k)) hbB ?_, ?_⟩
          · exact Nat.lt_of_le_of_lt (by omega : es9.length ≤ 1000) (by decide)
          have mk : k ∈ u.kids := List.mem_of_getElem? hk
          have mkF : num m k ∈ (kidsF F).map (num m) := List.mem_map_of_mem (List.mem_flatMap.mpr ⟨u, mu, mk⟩)
          refine ⟨_, _, _, rfl, fun c o nc e => ?_, _, upd_same, ?_, fun w hw => ?_, fun k' hk' => ?_⟩
          · rw [upd_ne nc]
            exact sA _ _ (f9 c o nc e)
          · have := length_putK es9 (.inl (num m k)) (V.ref t7)
            omega
          · refine ((hd9 w hw).same sA).put hbB fun e => ?_
            have mw : num (m + 1) w ∈ F.map (num (m + 1)) := List.mem_map_of_mem (List.mem_of_mem_drop hw)
            rw [e] at mw
            exact (List.nodup_append.mp hnd).2.2 _ mw _ mkF rfl
          · rw [take_more hk, ← List.append_assoc] at hk'
            rcases List.mem_append.mp hk' with hk' | hk'
            · refine ((hk9 k' hk').same sA).put hbB fun e => ?_
              have z := (List.nodup_append.mp hnd).2.1
              have ek : kidsF F = (kidsF (F.take i) ++ u.kids.take j) ++ (k :: (u.kids.drop (j + 1) ++ kidsF (F.drop (i + 1)))) := by
                have z2 : u.kids = u.kids.take j ++ (k :: u.kids.drop (j + 1)) := by
                  have hjl := (List.getElem?_eq_some_iff.mp hk).1
                  have z3 : u.kids.drop j = k :: u.kids.drop (j + 1) := by rw [List.drop_eq_getElem_cons hjl, (List.getElem?_eq_some_iff.mp hk).2]
                  rw [← z3, List.take_append_drop]
                rw [ekF]
                conv => lhs; rw [z2]
                simp
              rw [ek, List.map_append, List.map_cons] at z
              exact (List.nodup_append.mp z).2.2 _ (List.mem_map_of_mem hk') _ (List.mem_cons_self ..) e
            · obtain rfl := List.mem_singleton.mp hk'
              exact ⟨a', b', Has.new hbB ht7', hR⟩
        · rintro σ H9 ⟨v10, v11, v12, rfl, f9, es9, hb9, hes9, hd9, hk9⟩
          rw [List.take_length] at hk9
          refine ⟨_, _, _, _, _, _, _, _, _, rfl, fun c o nc e => f9 _ _ nc (s8 _ _ (f6 c o nc e)), es9, hb9, ?_, hd9, ?_⟩
          · have e9 : (kidsF (F.take (i + 1))).length = (kidsF (F.take i)).length + u.kids.length := by
              unfold kidsF
              rw [take_more hu, List.flatMap_append]
              simp
            omega
          · intro k hk
            refine hk9 k ?_
            unfold kidsF at hk ⊢
            rw [take_more hu, List.flatMap_append] at hk
            simpa using hk
      · rintro σ H6 ⟨v4, v5, v6, v7, v8, v9, v10, v11, v12, rfl, f6, es6, hb6, hes6, hd6, hk6⟩
        rw [List.length_map, List.length_map, List.take_length] at hes6 hk6
        refine ⟨_, _, _, _, _, _, _, _, _, _, rfl, f6, m, kidsF F, done ++ [F.map (num (m + 1))], es6, by rw [List.length_append, hj]; rfl, by rw [List.append_assoc]; exact hdone, hb6, ?_, fun k hk => ?_⟩
        · rw [List.flatten_append, List.length_append, List.flatten_cons, List.flatten_nil, List.append_nil, List.length_map]
          exact hes6
        · obtain ⟨u, hu, hk'⟩ := List.mem_flatMap.mp hk
          obtain ⟨⟨_, h1⟩, h2, _⟩ := hF u hu
          exact ⟨h1 k hk', h2.2.2.2 k hk', hk6 k hk⟩
    · rintro σ H5 ⟨v3, v4, v5, v6, v7, v8, v9, v10, v11, v12, rfl, f5, m0, F, done, es5, hj, hdone, hb5, hes5, hF⟩
      rw [List.length_take] at hj
      obtain rfl : m0 = 0 := by
        have z := congrArg List.length hdone
        rw [List.length_append, rows_len, rows_len] at z
        omega
      refine ⟨_, rfl, kq H5 b F (fr f5) ?_ (fun u hu => (hF u hu).1) fun u hu => (hF u hu).2.2⟩
      rw [← hdone]
      show (done ++ [F.map (num 0)]).getLast? = _
      rw [List.getLast?_append]
      rfl
end
end K30

namespace K30
open PySem PySem.Spec PyProof.Rows L2 RZ HX TR
theorem last_at {α β : Type} {R : α → β → Prop} {xs : List α} {ys : List β} {y : β} (h : Paired R xs ys) (e : ys.getLast? = some y) : ∃ x, atI xs (-1) = some x ∧ R x y := by
  have hl := Paired.length h
  have hn : ys ≠ [] := fun z => by rw [z] at e; cases e
  have h0 : 0 < ys.length := List.length_pos_iff.mpr hn
  rw [List.getLast?_eq_getElem?] at e
  obtain ⟨x, hx, r⟩ := pget2 h e
  exact ⟨x, at_last (n := ys.length - 1) (by omega) hx, r⟩
section
variable {P : Program} {w : World} {K : PySem.W.Frag} {mg : Str → Option Value} {base : Heap}
def sp_keys_fit : Sp := fun vs H Q _ => ∃ (l : Nat) (t : Tr l) (S : List (Int × Pg)) (lv d : Addr), vs = [.ref lv, .ref d] ∧ LevAt H lv (rows l [t]) ∧ DctAt H d S ∧ Laid S l t ∧ KeyOk l t ∧ KeyB l t 0 1000000001 ∧ (nums l t).Nodup ∧ (nums l t).length ≤ 1000 ∧ l ≤ 100 ∧ (∀ q ∈ S, PgOk q.2) ∧
  ∀ H', Same H H' → Q (.bl true) H'
theorem ok_keys_fit (T : TX K mg) : FnOk P w K mg base CX0 2 (He.ga K "keys_fit") T.fd_keys_fit ["levels", "pages"] sp_keys_fit := by
  have G_bounds_of : FnOk P w K mg base CX0 1 (He.ga K "bounds_of") T.fd_bounds_of ["levels", "pages"] sp_bounds_of := ok_bounds_of T
  have b_bounds_of := b_bounds_of T
  refine T.F_keys_fit.ok sc_keys_fit (fun vs H Q E h => ?_) (fun cdv A outer st H vs Q E hr h => ?_)
  · obtain ⟨l, t, S, lv, d, rfl, _⟩ := h
    rfl
  · obtain ⟨l, t, S, lv, d, rfl, hlv, hd, hL, hK, hB, nd, few, hl, hg, kq⟩ := h
    refine ⟨_, PSs.nox (pss_cons (ps_set (i := 2) sc_keys_fit.nd rfl (Or.inl rfl) (pe_call G_bounds_of (hr.mono (by first | decide | omega)) rfl T.g_bounds_of T.F_bounds_of.kp b_bounds_of .nil pass0 (pa_cons (pv 0) (pa_cons (pv 1) pa_nil))))
 (pss_cons (ps_for PassesOwn.never rfl (pi_list (pe_ix ix_list (pv 0) (pe_un un_neg pe_int) (fun _ _ => rfl))) (pg_name (i := 3) sc_keys_fit.nd rfl (Or.inl rfl))
 (pss_cons (ps_asg (pe_dget (hu_of hr) (pv 2) (pv 3) (fun _ _ => rfl)) (pg_tup rfl (pgs_cons (pg_name (i := 4) sc_keys_fit.nd rfl (Or.inr rfl)) (pgs_cons (pg_name (i := 5) sc_keys_fit.nd rfl (Or.inr rfl)) pgs_nil))))
 (pss_one (ps_if (pt_not (pt_val (pe_callB (cr_all rfl) rfl T.n_all (by decide +kernel) (pa_cons (pe_lc (own := [("pair", 6)]) (g := gName 6) (tt := tYes) rfl sc_keys_fit.nd (pi_tup (pe_ix ix_tup (pe_dget (hu_of hr) (pv 1) (pv 3) (fun _ _ => rfl)) pe_int (fun _ _ => rfl))) (blkOk_by (own := [("pair", 6)]) (N := ["levels", "pages", "bounds", "number", "low", "high", "pair"]) (sc := defScope s_keys_fit) (by decide +kernel)) (fun _ _ _ _ _ => (pg_name (i := 6) sc_keys_fit.nd rfl (Or.inl rfl))) (fun _ _ _ _ _ => pts_nil) (fun _ _ _ _ _ => (pe_chain op_le op_lt (pv 4) (pe_ix (ixt K) (pv 6) pe_int (fun _ _ => rfl)) (pv 5)))) pa_nil))))
 (pss_one (ps_ret pe_bl))
 pss_nil))))
 (pss_one (ps_ret pe_bl)))), ?_⟩
    refine ⟨_, rfl, _, rfl, l, t, S, lv, d, rfl, hlv, hd, hL, hK, hB, nd, few, hl, fun H1 b F s1 hlast hFL hbd => ?_⟩
    obtain ⟨vs, hv1, hvs⟩ := hlv.same s1
    obtain ⟨x, hx, a, rfl, _, ha⟩ := last_at hvs hlast
    refine ⟨_, rfl, 1, rfl, lv, _, _, _, rfl, rfl, SqL.of hv1, hx, a, rfl, ⟨_, SqL.of ha⟩, ?_⟩
    refine for_list (xs := (F.map (num 0)).map V.int) (fun i σ H' => ∃ v3 v4 v5, σ = [some (.ref lv), some (.ref d), some (.ref b), v3, v4, v5, none] ∧ Same H1 H') ⟨_, _, _, rfl, Same.refl H1⟩ (fun i σ H' _ z => ?_) ?_ ?_
    · obtain ⟨_, _, _, _, s⟩ := z
      exact SqL.of (s _ _ ha)
    · rintro i x σ H2 hx2 ⟨v3, v4, v5, rfl, s2⟩
      obtain ⟨n, hn, rfl⟩ := map_at hx2
      obtain ⟨u, hu, rfl⟩ := map_at hn
      have mu := List.mem_of_getElem? hu
      obtain ⟨lo, hi, ⟨es, t', hb, hv, ht'⟩, hKB⟩ := (hbd u mu).same s2
      obtain ⟨nx, hk⟩ := hFL u mu
      have hd2 := (hd.same s1).same s2
      obtain ⟨v, hv2, t1, q, rfl, ht1, ys, hq, hpy⟩ := hd2.get hk
      have hps : u.ps.length ≤ 1000 := (hg _ (lkp_mem hk)).2.2.2.2
      refine ⟨_, rfl, _, rfl, b, .ref t', rfl, hv ▸ DGet.k (k := .inl (num 0 u)) hb, t', _, rfl, SqT.of ht', rfl, _, _, rfl, _, _, rfl, rfl, ?_⟩
      refine ⟨_, rfl, _, rfl, d, _, rfl, hv2, t1, _, _, _, rfl, rfl, SqT.of ht1, rfl, q, rfl, ⟨_, hq.sq⟩, fun D hD => ?_⟩
      have hyl := Paired.length hpy
      refine lc_it (walk_tup (xs := ys)) (fun j H' => Same H2 H' ∧ H' D = some (.lst ((List.replicate j true).map V.bl))) ⟨same_new hD, upd_same⟩ (fun j H' _ z => (hq.same z.1).sq) ?_ ?_
      · rintro j x H3 H4 hj ⟨s3, hD3⟩ ⟨rfl, hx3⟩
        obtain ⟨pr, hpr, t2, rfl, ht2⟩ := pget1 hpy hx3
        obtain ⟨k1, k2⟩ := hKB pr (List.mem_of_getElem? hpr)
        refine ⟨rfl, ?_⟩
        dsimp only [tYes]
        rw [if_pos rfl]
        refine ⟨_, rfl, _, rfl, t2, _, _, _, rfl, rfl, SqT.of (s3 _ _ ht2), rfl, _, _, rfl, rfl, true, congrArg V.bl (decide_eq_true k1), iteT ?_⟩
        refine ⟨_, rfl, _, _, rfl, rfl, _, hD3, ?_, same_upd s3 hD, ?_⟩
        · rw [List.length_map, List.length_replicate]
          exact Nat.lt_of_le_of_lt (by omega : j ≤ 1000) (by decide)
        · rw [upd_same, ← rep_snoc]
          show some (HO.lst (_ ++ [V.bl (decide (pr.1 < hi))])) = _
          rw [decide_eq_true k2]
      · rintro H3 ⟨s3, hD3⟩
        refine ⟨D, _, rfl, SqL.of hD3, ?_⟩
        rw [rep_true]
        exact ⟨true, rfl, iteF ⟨_, _, _, rfl, s2.trans s3⟩⟩
    · rintro σ H2 ⟨v3, v4, v5, rfl, s2⟩
      exact kq H2 (s1.trans s2)
/-- a sound tree as it stands in a heap -/
structure SndAt (H : Hp) (v : V) (room l : Nat) (t : Tr l) (S : List (Int × Pg)) : Prop where
  tree : Tree room l t S
  at_ : TreeAt H v room (num l t) S
theorem pgOk_of {room : Nat} : ∀ {l : Nat} {top : Bool} {t : Tr l} {S : List (Int × Pg)}, room ≤ 8 → Laid S l t → WfSh room l top (shp l t) → KeyOk l t → (∀ k ∈ nums l t, 1 ≤ k ∧ k ≤ 1000000) → (prs l t).Pairwise (fun a b => a.1 < b.1) → (∀ q ∈ prs l t, GoodPr q) →
    (∀ n ∈ lvs l t, ∀ ps nx, lkp S n = some (.leaf ps nx) → 0 ≤ nx ∧ nx ≤ 1000000) → ∀ k ∈ nums l t, ∀ g, lkp S k = some g → PgOk g
  | 0, _, t, S, r8, ⟨nx, h⟩, w, _, _, hp, hg, hn, k, hk, g, e => by
    obtain rfl := List.mem_singleton.mp hk
    rw [h] at e
    cases e
    have := hn _ (List.mem_singleton.mpr rfl) _ _ h
    have w2 : t.ps.length ≤ room := w.2
    exact ⟨hg, hp, this.1, this.2, by omega⟩
  | l + 1, _, t, S, r8, ⟨h, hl⟩, w, ⟨k1, k2, k3, k4⟩, hr, hp, hg, hn, k, hk, g, e => by
    have w2 := w.2.1
    have el : (shp (l + 1) t).ks.length = t.kids.length := List.length_map ..
    rw [el] at w2
    rcases List.mem_cons.mp hk with hk | hk
    · subst hk
      rw [h] at e
      cases e
      refine ⟨k1, k2, fun n hn => ?_, by rw [List.length_map]; exact k3, by rw [List.length_map]; omega⟩
      obtain ⟨u, hu, rfl⟩ := List.mem_map.mp hn
      refine hr _ (List.mem_cons_of_mem _ (List.mem_flatMap.mpr ⟨u, hu, ?_⟩))
      cases l with
      | zero => exact List.mem_singleton.mpr rfl
      | succ l => exact List.mem_cons_self ..
    · obtain ⟨u, hu, hk⟩ := List.mem_flatMap.mp hk
      refine pgOk_of r8 (hl u hu) (w.2.2 _ (List.mem_map_of_mem hu)) (k4 u hu) (fun k hk => hr k (List.mem_cons_of_mem _ (List.mem_flatMap.mpr ⟨u, hu, hk⟩))) ?_ (fun q hq => hg q (List.mem_flatMap.mpr ⟨u, hu, hq⟩)) (fun n hn' => hn n (List.mem_flatMap.mpr ⟨u, hu, hn'⟩)) k hk g e
      obtain ⟨i, hi⟩ := List.getElem?_of_mem hu
      have hp' : (t.kids.flatMap (prs l)).Pairwise (fun a b => a.1 < b.1) := hp
      exact hp'.sublist (by
        have hil := (List.getElem?_eq_some_iff.mp hi)
        obtain ⟨a, b, e⟩ := List.append_of_mem hu
        rw [e, List.flatMap_append, List.flatMap_cons]
        exact (List.sublist_append_left _ _).trans (List.sublist_append_right _ _))
theorem Tree.pgOk {room l : Nat} {t : Tr l} {S : List (Int × Pg)} (h : Tree room l t S) : ∀ q ∈ S, 1 ≤ q.1 ∧ q.1 ≤ 1000000 ∧ PgOk q.2 := fun q hq => by
  have m : q.1 ∈ nums l t := h.perm.mem_iff.mp (List.mem_map_of_mem hq)
  have ndS : (S.map (·.1)).Nodup := h.perm.nodup_iff.mpr h.nodup
  refine ⟨(h.range _ m).1, (h.range _ m).2, pgOk_of h.r8 h.laid h.wf h.keyOk h.range h.rising h.good (fun n hn ps nx e => ?_) q.1 m q.2 (mem_lkp ndS hq)⟩
  obtain ⟨j, hj⟩ := List.getElem?_of_mem hn
  obtain ⟨ps', e2⟩ := h.next j n (List.getElem?_eq_some_iff.mp hj).1 hj
  rw [e] at e2
  cases e2
  cases c : (lvs l t)[j + 1]? with
  | none => exact ⟨Int.le_refl 0, by decide⟩
  | some k =>
    have := h.range k (lvs_sub.subset (List.mem_of_getElem? c))
    exact ⟨by show 0 ≤ k; omega, this.2⟩
end
end K30

namespace K30
open PySem PySem.Spec PyProof.Rows L2 RZ HX TR
theorem num_pairs {K : PySem.W.Frag} {H : Hp} : ∀ {xs : List V} {S : List (Int × Pg)}, Paired (NumAt H) xs S → ∃ (ps : List Addr) (kvs : List (Key × V)), xs = ps.map V.ref ∧ Paired (fun p (kv : Key × V) => SqT K H p [kV kv.1, kv.2]) ps kvs ∧ Paired (EnAt H) kvs S ∧ kvs.map (·.1) = S.map fun q => (.inl q.1 : Key)
  | _, _, .nil => ⟨[], [], rfl, .nil, .nil, rfl⟩
  | _, _, .cons (b := q) r rs => by
    obtain ⟨ps, kvs, e, h1, h2, h3⟩ := num_pairs (K := K) rs
    obtain ⟨t, v, e1, ht, hv⟩ := r
    refine ⟨t :: ps, (.inl q.1, v) :: kvs, by rw [e, e1]; rfl, .cons (SqT.of ht) h1, .cons ⟨rfl, hv⟩ h2, by rw [List.map_cons, List.map_cons, h3]⟩
section
variable {P : Program} {w : World} {K : PySem.W.Frag} {mg : Str → Option Value} {base : Heap}
theorem lvs_ne : ∀ {l : Nat} {t : Tr l}, KeyOk l t → lvs l t ≠ []
  | 0, _, _ => fun e => by cases e
  | l + 1, t, h => fun e => by
    have h1 := h.2.2.1
    cases c : t.kids with
    | nil => rw [c] at h1; cases h1
    | cons u r =>
      have e2 : t.kids.flatMap (lvs l) = [] := e
      rw [c, List.flatMap_cons] at e2
      exact lvs_ne (h.2.2.2 u (by rw [c]; exact List.mem_cons_self ..)) (List.append_eq_nil_iff.mp e2).1
/-- dict(..) of a tree's pages -/
theorem pages_dict {H : Hp} {kvs : List (Key × V)} {S : List (Int × Pg)} (h2 : Paired (EnAt H) kvs S) (h3 : kvs.map (·.1) = S.map fun q => (.inl q.1 : Key)) (nd : (S.map (·.1)).Nodup) {d : Addr} (hd : H d = none) :
    Same H (upd H d (.dK (mergeK [] kvs))) ∧ DctAt (upd H d (.dK (mergeK [] kvs))) d S := by
  have hm : mergeK [] kvs = kvs := by
    rw [RU.mergeK_nodup]
    · rfl
    · rw [List.nil_append, h3]
      have e : (S.map fun q => (.inl q.1 : Key)) = (S.map (·.1)).map (fun k => (.inl k : Key)) := by rw [List.map_map]; rfl
      rw [e]
      exact List.Pairwise.map _ (fun a b h z => h (by injection z)) nd
  rw [hm]
  have s : Same H (upd H d (.dK kvs)) := same_new hd
  exact ⟨s, kvs, upd_same, paired_imp (fun _ _ (r : EnAt H _ _) => (⟨r.1, r.2.keep (Keep.of s)⟩ : EnAt _ _ _)) h2⟩
def sp_is_sound : Sp := fun vs H Q _ => ∃ (v : V) (room l : Nat) (t : Tr l) (S : List (Int × Pg)), vs = [v] ∧ SndAt H v room l t S ∧ l ≤ 100 ∧ ∀ H', Same H H' → Q (.bl true) H'
theorem ok_is_sound (T : TX K mg) : FnOk P w K mg base CX0 11 (He.ga K "is_sound") T.fd_is_sound ["thing"] sp_is_sound := by
  have G_is_row : FnOk P w K mg base CX0 1 (He.ga K "is_row") T.fd_is_row ["thing", "many"] sp_is_row := ok_is_row T
  have b_is_row := b_is_row T
  have G_is_room : FnOk P w K mg base CX0 3 (He.ga K "is_room") T.fd_is_room ["thing"] (sp_rng 3 8) := ok_is_room T
  have b_is_room := b_is_room T
  have G_is_page_number : FnOk P w K mg base CX0 3 (He.ga K "is_page_number") T.fd_is_page_number ["thing"] (sp_rng 1 1000000) := ok_is_page_number T
  have b_is_page_number := b_is_page_number T
  have G_are_numbered_pages : FnOk P w K mg base CX0 10 (He.ga K "are_numbered_pages") T.fd_are_numbered_pages ["thing"] sp_are_numbered_pages := ok_are_numbered_pages T
  have b_are_numbered_pages := b_are_numbered_pages T
  have G_levels_from : FnOk P w K mg base CX0 1 (He.ga K "levels_from") T.fd_levels_from ["root", "pages"] sp_levels_from := ok_levels_from T
  have b_levels_from := b_levels_from T
  have G_sizes_fit : FnOk P w K mg base CX0 2 (He.ga K "sizes_fit") T.fd_sizes_fit ["room", "root", "pages"] sp_sizes_fit := ok_sizes_fit T
  have b_sizes_fit := b_sizes_fit T
  have G_keys_fit : FnOk P w K mg base CX0 2 (He.ga K "keys_fit") T.fd_keys_fit ["levels", "pages"] sp_keys_fit := ok_keys_fit T
  have b_keys_fit := b_keys_fit T
  have G_nexts_fit : FnOk P w K mg base CX0 1 (He.ga K "nexts_fit") T.fd_nexts_fit ["leaves", "pages"] sp_nexts_fit := ok_nexts_fit T
  have b_nexts_fit := b_nexts_fit T
  refine T.F_is_sound.ok sc_is_sound (fun vs H Q E h => ?_) (fun cdv A outer st H vs Q E hr h => ?_)
  · obtain ⟨v, room, l, t, S, rfl, _⟩ := h
    rfl
  · obtain ⟨v, room, l, t, S, rfl, ⟨h, a, b, o, xs, rfl, ha, hb, ho, hx⟩, hl, kq⟩ := h
    refine ⟨_, PSs.nox (pss_cons (ps_if (pt_not (pt_val (pe_call G_is_row (hr.mono (by first | decide | omega)) rfl T.g_is_row T.F_is_row.kp b_is_row .nil pass0 (pa_cons (pv 0) (pa_cons pe_int pa_nil)))))
 (pss_one (ps_ret pe_bl))
 pss_nil)
 (pss_cons (ps_asg (pv 0) (pg_tup rfl (pgs_cons (pg_name (i := 1) sc_is_sound.nd rfl (Or.inl rfl)) (pgs_cons (pg_name (i := 2) sc_is_sound.nd rfl (Or.inl rfl)) (pgs_cons (pg_name (i := 3) sc_is_sound.nd rfl (Or.inl rfl)) pgs_nil)))))
 (pss_cons (ps_if (PW.pt (pw_or (pt_not (pt_val (pe_call G_is_room (hr.mono (by first | decide | omega)) rfl T.g_is_room T.F_is_room.kp b_is_room .nil pass0 (pa_cons (pv 1) pa_nil)))) (pw_or (pt_not (pt_val (pe_call G_is_page_number (hr.mono (by first | decide | omega)) rfl T.g_is_page_number T.F_is_page_number.kp b_is_page_number .nil pass0 (pa_cons (pv 2) pa_nil)))) (pw_or1 (pt_not (pt_val (pe_call G_are_numbered_pages (hr.mono (by first | decide | omega)) rfl T.g_are_numbered_pages T.F_are_numbered_pages.kp b_are_numbered_pages .nil pass0 (pa_cons (pv 3) pa_nil))))))))
 (pss_one (ps_ret pe_bl))
 pss_nil)
 (pss_cons (ps_set (i := 4) sc_is_sound.nd rfl (Or.inl rfl) (pe_callTy (RU.call_dictT rfl) rfl T.n_dict (by decide +kernel) (pa_cons (pv 3) pa_nil)))
 (pss_cons (ps_set (i := 5) sc_is_sound.nd rfl (Or.inl rfl) (pe_call G_levels_from (hr.mono (by first | decide | omega)) rfl T.g_levels_from T.F_levels_from.kp b_levels_from .nil pass0 (pa_cons (pv 2) (pa_cons (pv 4) pa_nil))))
 (pss_cons (ps_if (PW.pt (pw_or (pt_cmpR op_isN (pv 5) pe_non (nomark _)) (pw_or1 (pt_not (pt_val (pe_call G_sizes_fit (hr.mono (by first | decide | omega)) rfl T.g_sizes_fit T.F_sizes_fit.kp b_sizes_fit .nil pass0 (pa_cons (pv 1) (pa_cons (pv 2) (pa_cons (pv 4) pa_nil)))))))))
 (pss_one (ps_ret pe_bl))
 pss_nil)
 (pss_one (ps_ret (pe_and (pe_call G_keys_fit (hr.mono (by first | decide | omega)) rfl T.g_keys_fit T.F_keys_fit.kp b_keys_fit .nil pass0 (pa_cons (pv 5) (pa_cons (pv 4) pa_nil))) (pe_one (pe_call G_nexts_fit (hr.mono (by first | decide | omega)) rfl T.g_nexts_fit T.F_nexts_fit.kp b_nexts_fit .nil pass0 (pa_cons (pe_ix ix_list (pv 5) (pe_un un_neg pe_int) (fun _ _ => rfl)) (pa_cons (pv 4) pa_nil))))))))))))), ?_⟩
    have r3 := h.r3
    have r8 := h.r8
    have hroot := h.range (num l t) (by cases l <;> simp [nums])
    have hlen : S.length = (nums l t).length := by
      have z := h.perm.length_eq
      rw [List.length_map] at z
      exact z
    have ndS : (S.map (·.1)).Nodup := h.perm.nodup_iff.mpr h.nodup
    have hne : S ≠ [] := fun e => by
      rw [e] at hlen
      cases l <;> simp [nums] at hlen
    have few := h.few
    refine ⟨_, rfl, a, _, _, rfl, ha, true, rfl, iteF ?_⟩
    refine ⟨_, rfl, a, _, rfl, SqT.of ha, rfl, _, _, rfl, _, _, rfl, _, _, rfl, rfl, ?_⟩
    refine ⟨_, rfl, (room : Int), rfl, ?_⟩
    rw [decide_eq_true (by omega : (3 : Int) ≤ (room : Int)), decide_eq_true (by omega : (room : Int) ≤ 8)]
    refine ⟨true, rfl, iteF ?_⟩
    refine ⟨_, rfl, num l t, rfl, ?_⟩
    rw [decide_eq_true hroot.1, decide_eq_true hroot.2]
    refine ⟨true, rfl, iteF ?_⟩
    refine ⟨_, rfl, b, o, xs, S, rfl, hb, hx, K30.Tree.pgOk h, h.sorted, hne, by omega, fun H1 s1 => ⟨true, rfl, iteF ?_⟩⟩
    obtain ⟨ps, kvs, e, p1, p2, p3⟩ := num_pairs (K := K) (paired_imp (fun _ _ r => NumAt.keep (Keep.of s1) r) hx)
    subst e
    refine ⟨_, rfl, b, o, ps, kvs, rfl, s1 _ _ hb, ho, p1, fun d hd0 => ?_⟩
    obtain ⟨s2, hd⟩ := pages_dict p2 p3 ndS hd0
    generalize upd H1 d (.dK (mergeK [] kvs)) = H2 at s2 hd
    refine ⟨_, rfl, _, rfl, l, t, S, d, rfl, hd, h.laid, h.keyOk, h.nodup, hlen, by omega, hl, fun H3 lv s3 hlv => ?_⟩
    refine ⟨_, rfl, rfl, _, rfl, iteF ?_⟩
    refine ⟨_, rfl, _, rfl, _, rfl, room, l, t, S, d, rfl, hd.same s3, h.laid, h.wf, h.nodup, h.perm, fun H4 s4 => ⟨true, rfl, iteF ?_⟩⟩
    refine ⟨_, rfl, _, rfl, l, t, S, lv, d, rfl, hlv.same s4, (hd.same s3).same s4, h.laid, h.keyOk, h.keyB, h.nodup, by omega, hl, fun q hq => (K30.Tree.pgOk h q hq).2.2, fun H5 s5 => ⟨true, rfl, iteT ?_⟩⟩
    obtain ⟨vs, hv5, hvs⟩ := (hlv.same s4).same s5
    have hlast : (rows l [t]).getLast? = some (lvs l t) := by
      have z := rows_last [t]
      rw [List.flatMap_cons, List.flatMap_nil, List.append_nil] at z
      exact z
    obtain ⟨x, hx5, a5, rfl, _, ha5⟩ := last_at hvs hlast
    have hll := lvs_len (l := l) (t := t)
    exact ⟨_, rfl, 1, rfl, lv, _, _, _, rfl, rfl, SqL.of hv5, hx5, _, rfl, lvs l t, S, a5, d, rfl, ha5, ((hd.same s3).same s4).same s5, h.next, lvs_ne h.keyOk, by omega, fun H6 s6 => kq H6 (((((s1.trans s2).trans s3).trans s4).trans s5).trans s6)⟩
def sp_need_tree : Sp := fun vs H Q _ => ∃ (v : V) (room l : Nat) (t : Tr l) (S : List (Int × Pg)), vs = [v] ∧ SndAt H v room l t S ∧ l ≤ 100 ∧ ∀ H', Same H H' → Q .non H'
theorem ok_need_tree (T : TX K mg) : FnOk P w K mg base CX0 12 (He.ga K "need_tree") T.fd_need_tree ["thing"] sp_need_tree := by
  have G_is_sound : FnOk P w K mg base CX0 11 (He.ga K "is_sound") T.fd_is_sound ["thing"] sp_is_sound := ok_is_sound T
  have b_is_sound := b_is_sound T
  refine T.F_need_tree.ok sc_need_tree (fun vs H Q E h => ?_) (fun cdv A outer st H vs Q E hr h => ?_)
  · obtain ⟨v, room, l, t, S, rfl, _⟩ := h
    rfl
  · obtain ⟨v, room, l, t, S, rfl, h, hl, kq⟩ := h
    refine ⟨_, PSs.nox (pss_one (ps_if (pt_not (pt_val (pe_call G_is_sound (hr.mono (by first | decide | omega)) rfl T.g_is_sound T.F_is_sound.kp b_is_sound .nil pass0 (pa_cons (pv 0) pa_nil))))
 (pss_one ps_never)
 pss_nil)), ?_⟩
    exact ⟨_, rfl, v, room, l, t, S, rfl, h, hl, fun H1 s1 => ⟨true, rfl, iteF (kq H1 s1)⟩⟩
end
end K30

namespace K30
open PySem PySem.Spec PyProof.Rows L2 RZ HX TR
def lfs : (l : Nat) → Tr l → List (Tr 0)
  | 0, t => [t]
  | l + 1, t => t.kids.flatMap (lfs l)
theorem lfs_num : ∀ {l : Nat} {t : Tr l}, (lfs l t).map (num 0) = lvs l t
  | 0, _ => rfl
  | l + 1, t => by
    show (t.kids.flatMap (lfs l)).map (num 0) = t.kids.flatMap (lvs l)
    rw [List.map_flatMap]
    congr 1
    funext u
    exact lfs_num
theorem lfs_prs : ∀ {l : Nat} {t : Tr l}, (lfs l t).flatMap Tr.ps = prs l t
  | 0, t => by
    show [t].flatMap Tr.ps = t.ps
    simp
  | l + 1, t => by
    show (t.kids.flatMap (lfs l)).flatMap Tr.ps = t.kids.flatMap (prs l)
    rw [List.flatMap_assoc]
    congr 1
    funext u
    exact lfs_prs
theorem lfs_laid {S : List (Int × Pg)} : ∀ {l : Nat} {t : Tr l}, Laid S l t → ∀ u ∈ lfs l t, Laid S 0 u
  | 0, t, h, u, hu => by
    obtain rfl := List.mem_singleton.mp hu
    exact h
  | l + 1, t, h, u, hu => by
    obtain ⟨k, hk, hu⟩ := List.mem_flatMap.mp hu
    exact lfs_laid (h.2 k hk) u hu
theorem paired_app {α β : Type} {R : α → β → Prop} : ∀ {xs : List α} {ys : List β} {xs' : List α} {ys' : List β}, Paired R xs ys → Paired R xs' ys' → Paired R (xs ++ xs') (ys ++ ys')
  | _, _, _, _, .nil, h => h
  | _, _, _, _, .cons r rs, h => .cons r (paired_app rs h)
section
variable {P : Program} {w : World} {K : PySem.W.Frag} {mg : Str → Option Value} {base : Heap}
/-- a row of pairs just made: one knows that it has no dict -/
def PrF (H : Hp) (a : Addr) (ps : List (Int × Int)) : Prop := ∃ (o : Obj) (xs : List V), H a = some (.frz o (.tup xs)) ∧ o.dict = none ∧ Paired (PrAt H) xs ps
def sp_law_pairs_of : Sp := fun vs H Q _ => ∃ (v : V) (room l : Nat) (t : Tr l) (S : List (Int × Pg)), vs = [v] ∧ SndAt H v room l t S ∧ l < 6 ∧ (prs l t).length ≤ 100000 ∧
  ∀ (H' : Hp) (a : Addr), Same H H' → PrF H' a (prs l t) → Q (.ref a) H'
end
end K30

namespace K30
open PySem PySem.Spec PyProof.Rows L2 RZ HX TR RP
/-! ### a tree as data -/
def prD (p : Int × Int) : PyData := .tuple [.int p.1, .int p.2]
def pgD : Pg → PyData
  | .leaf ps nx => .tuple [.str "leaf", .tuple (ps.map prD), .int nx]
  | .node ks kids => .tuple [.str "node", .tuple (ks.map PyData.int), .tuple (kids.map PyData.int)]
def numD (q : Int × Pg) : PyData := .tuple [.int q.1, pgD q.2]
def treeD (room root : Int) (S : List (Int × Pg)) : PyData := .tuple [.int room, .int root, .tuple (S.map numD)]
section
variable {K : PySem.W.Frag} {H : Hp}
theorem pr_dp {x : V} {p : Int × Int} (h : PrAt H x p) : Dp K H x (prD p) := by
  obtain ⟨t, rfl, ht⟩ := h
  exact .tup (SqT.of ht) (.cons (.int _) (.cons (.int _) .nil))
theorem pg_dp {v : V} : ∀ {g : Pg}, PgAt H v g → Dp K H v (pgD g)
  | .leaf ps nx, ⟨t, q, e, h1, xs, h2, h3⟩ => by
    subst e
    exact .tup (SqT.of h1) (.cons (.str _) (.cons (.tup h2.sq (dpAll_of (fun _ _ r => pr_dp r) h3)) (.cons (.int _) .nil)))
  | .node ks kids, ⟨t, q1, q2, e, h1, h2, h3⟩ => by
    subst e
    exact .tup (SqT.of h1) (.cons (.str _) (.cons (.tup (SqT.of h2) (dpa_ints _)) (.cons (.tup h3.sq (dpa_ints _)) .nil)))
theorem tree_dp {v : V} {room root : Int} {S : List (Int × Pg)} (h : TreeAt H v room root S) : ∃ a, v = .ref a ∧ Dp K H v (treeD room root S) := by
  obtain ⟨a, b, o, xs, rfl, ha, hb, ho, hx⟩ := h
  refine ⟨a, rfl, .tup (SqT.of ha) (.cons (.int _) (.cons (.int _) (.cons (.tup (sqF hb) (dpAll_of (fun x q r => ?_) hx)) .nil)))⟩
  obtain ⟨t, w, rfl, ht, hg⟩ := r
  exact .tup (SqT.of ht) (.cons (.int _) (.cons (pg_dp hg) .nil))
end
theorem pr_nice {p : Int × Int} (h : GoodPr p) : Nice (prD p) 62 1 := by
  obtain ⟨h1, h2, h3, h4⟩ := h
  exact (NiceAll.cons (nice_int30 (by omega) (by omega)) (NiceAll.cons (nice_int30 (by omega) (by omega)) NiceAll.nil (Nat.zero_le 0)) (Nat.zero_le 0)).tup
theorem ints_nice {ks : List Int} (h : ∀ k ∈ ks, 0 ≤ k ∧ k ≤ 1000000000) (hl : ks.length ≤ 8) : Nice (.tuple (ks.map PyData.int)) 248 1 := by
  refine nice_tup (n := 30) (fun d hd => ?_) (by rw [List.length_map]; omega)
  obtain ⟨k, hk, rfl⟩ := List.mem_map.mp hd
  have := h k hk
  exact nice_int30 (by omega) (by omega)
theorem pg_nice : ∀ {g : Pg}, PgOk g → Pg.parts g ≤ 8 → Nice (pgD g) 541 3
  | .leaf ps nx, ⟨h1, h2, h3, h4, h5⟩, h => by
    have hp : ps.length ≤ 8 := h
    have a : Nice (.tuple (ps.map prD)) 504 2 := nice_tup (n := 62) (fun d hd => by
      obtain ⟨q, hq, rfl⟩ := List.mem_map.mp hd
      exact pr_nice (h1 q hq)) (by rw [List.length_map]; omega)
    exact (NiceAll.cons (k := 2) nice_leaf (NiceAll.cons a (NiceAll.cons (nice_int30 (by omega) (by omega)) NiceAll.nil (Nat.zero_le 2)) (Nat.le_refl 2)) (Nat.zero_le 2)).tup.le (by omega) (by omega)
  | .node ks kids, ⟨h1, h2, h3, h4, h5⟩, h => by
    have hp : kids.length ≤ 8 := h
    have a := ints_nice h2 (by omega)
    have b := ints_nice (fun k hk => ⟨by have := h3 k hk; omega, by have := h3 k hk; omega⟩) hp
    exact (NiceAll.cons (k := 2) nice_node (NiceAll.cons a (NiceAll.cons b NiceAll.nil (by omega)) (by omega)) (Nat.zero_le 2)).tup.le (by omega) (by omega)
theorem tree_few {room l : Nat} {t : Tr l} {S : List (Int × Pg)} (h : TR.Tree room l t S) : S.length ≤ 1000 := by
  have z := h.perm.length_eq
  rw [List.length_map] at z
  have := h.few
  omega
theorem tree_parts {room l : Nat} {t : Tr l} {S : List (Int × Pg)} (h : TR.Tree room l t S) : ∀ q ∈ S, Pg.parts q.2 ≤ room := fun q hq => by
  have m : q.1 ∈ nums l t := h.perm.mem_iff.mp (List.mem_map_of_mem hq)
  have ndS : (S.map (·.1)).Nodup := h.perm.nodup_iff.mpr h.nodup
  have e := mem_lkp ndS hq
  rcases fit_all h.laid h.wf q.1 m with z | ⟨g, e2, _, z⟩
  · obtain ⟨g, e2, _, z2, _⟩ := fit_root h.laid h.wf
    rw [← z, e] at e2
    cases e2
    exact z2
  · rw [e] at e2
    cases e2
    exact z
theorem tree_nice {room l : Nat} {t : Tr l} {S : List (Int × Pg)} (h : TR.Tree room l t S) : Nice (treeD room (num l t) S) 600000 6 := by
  have h3 := h.r3
  have h8 := h.r8
  have hn := h.range (num l t) (by cases l with | zero => exact List.mem_singleton.mpr rfl | succ l => exact List.mem_cons_self ..)
  have a : Nice (.tuple (S.map numD)) 574000 5 := nice_tup (n := 573) (fun d hd => by
    obtain ⟨q, hq, rfl⟩ := List.mem_map.mp hd
    obtain ⟨g1, g2, g3⟩ := K30.Tree.pgOk h q hq
    have p8 := tree_parts h q hq
    exact (NiceAll.cons (k := 3) (nice_int30 (by omega) (by omega)) (NiceAll.cons (pg_nice g3 (by omega)) NiceAll.nil (Nat.le_refl 3)) (Nat.zero_le 3)).tup) (by rw [List.length_map]; have := tree_few h; omega)
  exact (NiceAll.cons (k := 5) (nice_int30 (by omega) (by omega)) (NiceAll.cons (nice_int30 (by omega) (by omega)) (NiceAll.cons a NiceAll.nil (Nat.le_refl 5)) (Nat.zero_le 5)) (Nat.zero_le 5)).tup.le (by omega) (by omega)
/-- how many pairs -/
theorem lfs_few {room : Nat} : ∀ {l : Nat} {top : Bool} {t : Tr l}, WfSh room l top (shp l t) → ∀ u ∈ lfs l t, u.ps.length ≤ room
  | 0, _, t, h, u, hu => by
    obtain rfl := List.mem_singleton.mp hu
    exact h.2
  | l + 1, _, t, h, u, hu => by
    obtain ⟨s, hs, hu⟩ := List.mem_flatMap.mp hu
    exact lfs_few (h.2.2 _ (List.mem_map_of_mem hs)) u hu
theorem prs_few {room l : Nat} {t : Tr l} {S : List (Int × Pg)} (h : TR.Tree room l t S) : (prs l t).length ≤ 8000 := by
  have h8 := h.r8
  have few := h.few
  have ll := lvs_len (l := l) (t := t)
  have e := congrArg List.length (lfs_prs (l := l) (t := t))
  rw [List.length_flatMap] at e
  have s := sum_le (f := fun u : Tr 0 => u.ps.length) (c := 8) (xs := lfs l t) fun u hu => Nat.le_trans (lfs_few h.wf u hu) h8
  have e2 : (lfs l t).length = (lvs l t).length := by rw [← lfs_num, List.length_map]
  rw [← e]
  refine Nat.le_trans s ?_
  omega
end K30

namespace K30
open PySem PySem.Spec PyProof.Rows L2 RZ HX TR RP
/-- a row of pairs as data -/
def prsD (ps : List (Int × Int)) : PyData := .tuple (ps.map prD)
theorem prs_dp {K : PySem.W.Frag} {H : Hp} {a : Addr} {ps : List (Int × Int)} (h : PrT H a ps) : Dp K H (.ref a) (prsD ps) := by
  obtain ⟨xs, ha, hx⟩ := h
  exact .tup ha.sq (dpAll_of (fun _ _ r => pr_dp r) hx)
theorem prF_dp {K : PySem.W.Frag} {H : Hp} {a : Addr} {ps : List (Int × Int)} (h : PrF H a ps) : Dp K H (.ref a) (prsD ps) := by
  obtain ⟨o, xs, ha, _, hx⟩ := h
  exact .tup (sqF ha) (dpAll_of (fun _ _ r => pr_dp r) hx)
theorem PrF.but {H H' : Hp} {p a : Addr} {B : Int} {ps : List (Int × Int)} (h : PrF H a ps) (k : But p H H') (hp : PotOk H p B) : PrF H' a ps := by
  obtain ⟨o, xs, h1, h2, h3⟩ := h
  refine ⟨o, xs, k _ _ (fun z => ?_) h1, h2, paired_imp (fun _ _ r => PrAt.keep (hp.keep k) r) h3⟩
  obtain ⟨x, y, c, h0, _⟩ := hp
  rw [z, h0] at h1
  cases h1
end K30

namespace K30
open PySem PySem.Spec PyProof.Rows L2 RZ HX TR RP
section
variable {P : Program} {w : World} {K : PySem.W.Frag} {mg : Str → Option Value} {base : Heap}
def sp_levels_in : Sp := fun vs H Q _ => ∃ (v : V) (room l : Nat) (t : Tr l) (S : List (Int × Pg)), vs = [v] ∧ SndAt H v room l t S ∧ l ≤ 100 ∧ ∀ (H' : Hp) (a : Addr), Same H H' → LevAt H' a (rows l [t]) → Q (.ref a) H'
theorem ok_levels_in (T : TX K mg) : FnOk P w K mg base CX0 2 (He.ga K "levels_in") T.fd_levels_in ["tree"] sp_levels_in := by
  have G_levels_from : FnOk P w K mg base CX0 1 (He.ga K "levels_from") T.fd_levels_from ["root", "pages"] sp_levels_from := ok_levels_from T
  have b_levels_from := b_levels_from T
  refine T.F_levels_in.ok sc_levels_in (fun vs H Q E h => ?_) (fun cdv A outer st H vs Q E hr h => ?_)
  · obtain ⟨v, room, l, t, S, rfl, _⟩ := h
    rfl
  · obtain ⟨v, room, l, t, S, rfl, ⟨h, a, b, o, xs, rfl, ha, hb, ho, hx⟩, hl, kq⟩ := h
    refine ⟨_, PSs.nox (pss_one (ps_ret (pe_call G_levels_from (hr.mono (by first | decide | omega)) rfl T.g_levels_from T.F_levels_from.kp b_levels_from .nil pass0 (pa_cons (pe_ix ix_tup (pv 0) pe_int (fun _ _ => rfl)) (pa_cons (pe_callTy (RU.call_dictT rfl) rfl T.n_dict (by decide +kernel) (pa_cons (pe_ix ix_tup (pv 0) pe_int (fun _ _ => rfl)) pa_nil)) pa_nil))))), ?_⟩
    have ndS : (S.map (·.1)).Nodup := h.perm.nodup_iff.mpr h.nodup
    obtain ⟨ps, kvs, e, p1, p2, p3⟩ := num_pairs (K := K) hx
    subst e
    refine ⟨_, rfl, a, _, _, _, rfl, rfl, SqT.of ha, rfl, _, rfl, a, _, _, _, rfl, rfl, SqT.of ha, rfl, b, o, ps, kvs, rfl, hb, ho, p1, fun d hd0 => ?_⟩
    obtain ⟨s1, hd⟩ := pages_dict p2 p3 ndS hd0
    generalize upd H d (.dK (mergeK [] kvs)) = H1 at s1 hd
    have z := h.perm.length_eq
    rw [List.length_map] at z
    have few := h.few
    exact ⟨l, t, S, d, rfl, hd, h.laid, h.keyOk, h.nodup, z, by omega, hl, fun H2 a2 s2 h2 => kq H2 a2 (s1.trans s2) h2⟩
def sp_pairs_in : Sp := fun vs H Q _ => ∃ (v : V) (room l : Nat) (t : Tr l) (S : List (Int × Pg)), vs = [v] ∧ SndAt H v room l t S ∧ l ≤ 100 ∧ ∀ (H' : Hp) (a : Addr), Same H H' → PrT H' a (prs l t) → Q (.ref a) H'
theorem ok_pairs_in (T : TX K mg) : FnOk P w K mg base CX0 3 (He.ga K "pairs_in") T.fd_pairs_in ["tree"] sp_pairs_in := by
  have G_levels_in : FnOk P w K mg base CX0 2 (He.ga K "levels_in") T.fd_levels_in ["tree"] sp_levels_in := ok_levels_in T
  have b_levels_in := b_levels_in T
  refine T.F_pairs_in.ok sc_pairs_in (fun vs H Q E h => ?_) (fun cdv A outer st H vs Q E hr h => ?_)
  · obtain ⟨v, room, l, t, S, rfl, _⟩ := h
    rfl
  · obtain ⟨v, room, l, t, S, rfl, hsnd, hl, kq⟩ := h
    obtain ⟨h, a, b, o, xs, rfl, ha, hb, ho, hx⟩ := id hsnd
    refine ⟨_, PSs.nox (pss_cons (ps_set (i := 1) sc_pairs_in.nd rfl (Or.inr rfl) (pe_callTy (RU.call_dictT rfl) rfl T.n_dict (by decide +kernel) (pa_cons (pe_ix ix_tup (pv 0) pe_int (fun _ _ => rfl)) pa_nil)))
 (pss_one (ps_ret (pe_callTy RU.call_tupF rfl T.n_tuple (by decide +kernel) (pa_cons (pe_lc2 (own := [("number", 2), ("pair", 3)]) (vs1 := [3]) (g := gName 2) (g1 := gName 3) (tt := tYes) (tt1 := tYes) rfl sc_pairs_in.nd (pi_list (pe_ix ix_list (pe_call G_levels_in (hr.mono (by first | decide | omega)) rfl T.g_levels_in T.F_levels_in.kp b_levels_in .nil pass0 (pa_cons (pv 0) pa_nil)) (pe_un un_neg pe_int) (fun _ _ => rfl))) (blkOk_by (own := [("number", 2), ("pair", 3)]) (N := ["tree", "pages", "number", "pair"]) (sc := defScope s_pairs_in) (by decide +kernel)) (by decide) (fun _ _ _ _ _ => (pg_name (i := 2) sc_pairs_in.nd rfl (Or.inl rfl))) (fun _ _ _ _ _ => pts_nil) (fun _ _ _ _ _ => (RU.pi_tupK K (pe_ix (ixt K) (pe_dget (hu_of hr) (pv 1) (pv 2) (fun _ _ => rfl)) pe_int (fun _ _ => rfl)))) (fun _ _ _ _ _ => (pg_name (i := 3) sc_pairs_in.nd rfl (Or.inl rfl))) (fun _ _ _ _ _ => pts_nil) (fun _ _ _ _ _ => (pv 3))) pa_nil))))), ?_⟩
    have ndS : (S.map (·.1)).Nodup := h.perm.nodup_iff.mpr h.nodup
    obtain ⟨ps, kvs, e, p1, p2, p3⟩ := num_pairs (K := K) hx
    subst e
    refine ⟨_, rfl, a, _, _, _, rfl, rfl, SqT.of ha, rfl, b, o, ps, kvs, rfl, hb, ho, p1, fun d hd0 => ?_⟩
    obtain ⟨s1, hd⟩ := pages_dict p2 p3 ndS hd0
    generalize upd H d (.dK (mergeK [] kvs)) = H1 at s1 hd
    refine ⟨_, rfl, .ref a, room, l, t, S, rfl, ⟨h, hsnd.2.same s1⟩, hl, fun H2 lv s2 hlv => ?_⟩
    obtain ⟨vs, hlv1, hlv2⟩ := hlv
    have hrow : (rows l [t])[l]? = some (lvs l t) := by
      have z := rows_last (m := l) [t]
      rw [List.getLast?_eq_getElem?, rows_len, Nat.add_sub_cancel] at z
      rw [z, List.flatMap_cons, List.flatMap_nil, List.append_nil]
    obtain ⟨x, hxl, lb, rfl, nlb, hlb⟩ := pget2 hlv2 hrow
    have hvl : vs.length = l + 1 := by rw [hlv2.length, rows_len]
    rw [← lfs_num] at hlb
    refine ⟨1, rfl, lv, _, _, _, rfl, rfl, SqL.of hlv1, at_last hvl hxl, lb, rfl, ⟨_, SqL.of hlb⟩, fun D hD => ?_⟩
    have hd2 := hd.same s2
    have ll := lvs_len (l := l) (t := t)
    have e2 : (lfs l t).length = (lvs l t).length := by rw [← lfs_num, List.length_map]
    have few := h.few
    refine RU.out_it (walk_list (xs := ((lfs l t).map (num 0)).map V.int)) (fun i H' => Same H2 H' ∧ ∃ zs, H' D = some (.lst zs) ∧ Paired (PrAt H') zs (((lfs l t).take i).flatMap Tr.ps)) ⟨same_new hD, [], upd_same, .nil⟩ (fun i H' _ z => SqL.of (z.1 _ _ hlb)) ?_ ?_
    · rintro i x H3 H4 hi ⟨s3, zs, hD3, hz3⟩ ⟨rfl, hx4⟩
      obtain ⟨n, hn, rfl⟩ := map_at hx4
      obtain ⟨u, hu, rfl⟩ := map_at hn
      obtain ⟨nx, hk⟩ := lfs_laid h.laid u (List.mem_of_getElem? hu)
      obtain ⟨v, hv, t1, q, rfl, ht1, ys, hq, hpy⟩ := (hd2.same s3).get hk
      have hlen : (((lfs l t).take i).flatMap Tr.ps).length + u.ps.length ≤ 8000 := by
        have z := sum_part1 (fun u : Tr 0 => u.ps.length) hu
        have z2 := congrArg List.length (lfs_prs (l := l) (t := t))
        have z3 := prs_few h
        rw [List.length_flatMap] at z2 ⊢
        omega
      refine ⟨rfl, ?_⟩
      dsimp only [tYes]
      rw [if_pos rfl]
      refine ⟨_, rfl, _, rfl, d, _, rfl, hv, t1, _, _, _, rfl, rfl, SqT.of ht1, rfl, q, rfl, ⟨_, hq.sq⟩, ?_⟩
      refine RU.out_it (walk_tup (xs := ys)) (fun j H' => Same H2 H' ∧ FzT H' q ys ∧ Paired (PrAt H') ys u.ps ∧ ∃ zs, H' D = some (.lst zs) ∧ Paired (PrAt H') zs (((lfs l t).take i).flatMap Tr.ps ++ u.ps.take j)) ⟨s3, hq, hpy, zs, hD3, by rw [List.take_zero, List.append_nil]; exact hz3⟩ (fun j H' _ z => z.2.1.sq) ?_ ?_
      · rintro j x H5 H6 hj ⟨s5, hq5, hpy5, zs5, hD5, hz5⟩ ⟨rfl, hx⟩
        obtain ⟨p, hp, hpx⟩ := pget1 hpy5 hx
        have k5 : Keep H6 (upd H6 D (.lst (zs5 ++ [x]))) := (Keep.refl _).upd fun zs e => by rw [hD5] at e; cases e; rfl
        refine ⟨rfl, ?_⟩
        dsimp only [tYes]
        rw [if_pos rfl]
        refine ⟨_, rfl, _, hD5, ?_, same_upd s5 hD, hq5.keep k5, paired_imp (fun _ _ r => PrAt.keep k5 r) hpy5, _, upd_same, ?_⟩
        · rw [hz5.length, List.length_append, List.length_take]
          exact Nat.lt_of_le_of_lt (by omega : _ ≤ 8000) (by decide)
        · rw [take_more hp, ← List.append_assoc]
          exact paired_snoc (hpx.keep k5) (paired_imp (fun _ _ r => PrAt.keep k5 r) hz5)
      · rintro H5 ⟨s5, hq5, hpy5, zs5, hD5, hz5⟩
        refine ⟨s5, zs5, hD5, ?_⟩
        rw [hpy.length, List.take_length] at hz5
        rw [take_more hu, List.flatMap_append, List.flatMap_cons, List.flatMap_nil, List.append_nil]
        exact hz5
    · rintro H3 ⟨s3, zs, hD3, hz3⟩
      rw [List.length_map, List.length_map, List.take_length, lfs_prs] at hz3
      refine ⟨D, _, rfl, SqL.of hD3, fun r ro hr hro => ?_⟩
      exact kq _ r ((s1.trans s2).trans (same_upd s3 (Same.free s3 hr))) ⟨_, ⟨ro, upd_same, hro⟩, paired_imp (fun _ _ r' => PrAt.keep (Keep.of (same_new hr)) r') hz3⟩
end
end K30

namespace K30
open PySem PySem.Spec PyProof.Rows L2 RZ HX TR RP
section
variable {P : Program} {w : World} {K : PySem.W.Frag} {mg : Str → Option Value} {base : Heap}
def sp_pairs_of : Sp := fun vs H Q _ => ∃ (v : V) (room l : Nat) (t : Tr l) (S : List (Int × Pg)), vs = [v] ∧ SndAt H v room l t S ∧ l ≤ 100 ∧ ∀ (H' : Hp) (a : Addr), Same H H' → PrT H' a (prs l t) → Q (.ref a) H'
theorem ok_pairs_of (T : TX K mg) : FnOk P w K mg base CX0 13 (He.ga K "pairs_of") T.fd_pairs_of ["tree"] sp_pairs_of := by
  have G_need_tree : FnOk P w K mg base CX0 12 (He.ga K "need_tree") T.fd_need_tree ["thing"] sp_need_tree := ok_need_tree T
  have b_need_tree := b_need_tree T
  have G_pairs_in : FnOk P w K mg base CX0 3 (He.ga K "pairs_in") T.fd_pairs_in ["tree"] sp_pairs_in := ok_pairs_in T
  have b_pairs_in := b_pairs_in T
  refine T.F_pairs_of.ok sc_pairs_of (fun vs H Q E h => ?_) (fun cdv A outer st H vs Q E hr h => ?_)
  · obtain ⟨v, room, l, t, S, rfl, _⟩ := h
    rfl
  · obtain ⟨v, room, l, t, S, rfl, hsnd, hl, kq⟩ := h
    refine ⟨_, PSs.nox (pss_cons (ps_expr (pe_call G_need_tree (hr.mono (by first | decide | omega)) rfl T.g_need_tree T.F_need_tree.kp b_need_tree .nil pass0 (pa_cons (pv 0) pa_nil)))
 (pss_one (ps_ret (pe_call G_pairs_in (hr.mono (by first | decide | omega)) rfl T.g_pairs_in T.F_pairs_in.kp b_pairs_in .nil pass0 (pa_cons (pv 0) pa_nil))))), ?_⟩
    refine ⟨_, rfl, v, room, l, t, S, rfl, hsnd, hl, fun H1 s1 => ?_⟩
    exact ⟨_, rfl, v, room, l, t, S, rfl, ⟨hsnd.1, hsnd.2.same s1⟩, hl, fun H2 a s2 h2 => kq H2 a (s1.trans s2) h2⟩
end
end K30

namespace K30
open PySem PySem.Spec PyProof.Rows L2 RZ HX TR
theorem sqT_kp {K : PySem.W.Frag} {H H' : Hp} {a : Addr} {xs : List V} (k : Keep H H') (h : SqT K H a xs) : SqT K H' a xs := by
  rcases h with (h | ⟨o, h⟩) | h
  · exact .inl (.inl (k _ _ h))
  · exact .inl (.inr ⟨o, k.frz h⟩)
  · exact .inr h
/-! shapes, as data; their heights and pairs -/
def shD : (l : Nat) → Sh l → PyData
  | 0, n => .int (n.n : Int)
  | l + 1, ks => .tuple (ks.ks.map (shD l))
theorem dpAll_sh {K : PySem.W.Frag} {H : Hp} {α : Type} {R : V → α → Prop} {f : α → PyData} (h : ∀ x y, R x y → Dp K H x (f y)) : ∀ {xs : List V} {ys : List α}, Paired R xs ys → DpAll K H xs (ys.map f)
  | _, _, .nil => .nil
  | _, _, .cons r rs => .cons (h _ _ r) (dpAll_sh h rs)
theorem sh_dp {K : PySem.W.Frag} {H : Hp} : ∀ {l : Nat} {v : V} {s : Sh l}, ShAt H l v s → Dp K H v (shD l s)
  | 0, _, _, e => by
    rw [show _ = _ from e]
    exact .int _
  | l + 1, _, s, ⟨a, xs, e, ha, h⟩ => by
    subst e
    exact .tup (SqT.of ha) (dpAll_sh (fun _ _ r => sh_dp r) h)
theorem lay_all {ds : List PyData} {n : Nat} (h : ∀ d ∈ ds, d.canLay0 = true ∧ d.depth ≤ n) : PyData.canLayAll0 ds = true ∧ PyData.depthAll ds ≤ n := by
  induction ds with
  | nil => exact ⟨by simp only [PyData.canLayAll0], by simp only [PyData.depthAll]; exact Nat.zero_le _⟩
  | cons d ds ih =>
    obtain ⟨a, b⟩ := h d (List.mem_cons_self ..)
    obtain ⟨c, e⟩ := ih fun x hx => h x (List.mem_cons_of_mem _ hx)
    refine ⟨by simp only [PyData.canLayAll0, a, c, Bool.and_self], ?_⟩
    simp only [PyData.depthAll]
    omega
theorem sh_lay : ∀ {l : Nat} {s : Sh l}, (shD l s).canLay0 = true ∧ (shD l s).depth ≤ l
  | 0, s => ⟨by simp only [shD, PyData.canLay0], by simp only [shD, PyData.depth]; exact Nat.le_refl _⟩
  | l + 1, s => by
    have z := lay_all (ds := s.ks.map (shD l)) (n := l) fun d hd => by
      obtain ⟨k, _, rfl⟩ := List.mem_map.mp hd
      exact sh_lay
    refine ⟨by simp only [shD, PyData.canLay0]; exact z.1, ?_⟩
    simp only [shD, PyData.depth]
    have := z.2
    omega
theorem sh_shaped {l : Nat} {s : Sh l} (h : l ≤ 60) : SeqAt.shaped (shD l s) = true := by
  unfold SeqAt.shaped
  rw [sh_lay.1, Bool.true_and, decide_eq_true_eq]
  have := (sh_lay (s := s)).2
  omega
theorem eqv_shs {l : Nat} (ih : ∀ {a b : Sh l}, PyData.eqv (shD l a) (shD l b) = true → a = b) : ∀ {as bs : List (Sh l)}, PyData.eqvAll (as.map (shD l)) (bs.map (shD l)) = true → as = bs
  | [], [], _ => rfl
  | [], _ :: _, h => by simp [PyData.eqvAll] at h
  | _ :: _, [], h => by simp [PyData.eqvAll] at h
  | a :: as, b :: bs, h => by
    simp only [List.map_cons, PyData.eqvAll, Bool.and_eq_true] at h
    rw [ih h.1, eqv_shs ih h.2]
theorem eqv_sh : ∀ {l : Nat} {a b : Sh l}, PyData.eqv (shD l a) (shD l b) = true → a = b
  | 0, a, b, h => by
    simp only [shD, PyData.eqv, beq_iff_eq, decide_eq_true_eq] at h
    exact Int.ofNat.inj h
  | l + 1, a, b, h => by
    simp only [shD, PyData.eqv] at h
    exact eqv_shs (fun h => eqv_sh h) h
/-- no node of the shape is empty -/
def PosS : (l : Nat) → Sh l → Prop
  | 0, _ => True
  | l + 1, s => s.ks ≠ [] ∧ ∀ k ∈ s.ks, PosS l k
theorem posS {room : Nat} (r3 : 3 ≤ room) : ∀ {l : Nat} {top : Bool} {s : Sh l}, WfSh room l top s → PosS l s
  | 0, _, _, _ => trivial
  | l + 1, top, s, ⟨h1, _, h3⟩ => by
    refine ⟨fun e => ?_, fun k hk => posS r3 (h3 k hk)⟩
    rw [e] at h1
    have e1 : 2 ≤ loS room (l + 1) top := by
      cases top with
      | true => exact Nat.le_refl 2
      | false => show 2 ≤ (room + 1) / 2; omega
    simp only [List.length_nil] at h1
    omega
section
variable {P : Program} {w : World} {K : PySem.W.Frag} {mg : Str → Option Value} {base : Heap}
def sp_is_whole_sh : Sp := fun vs H Q _ => ∃ (l : Nat) (v : V) (s : Sh l), vs = [v] ∧ ShAt H l v s ∧ Q (.bl (decide (l = 0))) H
theorem ok_is_whole_sh (T : TX K mg) : FnOk P w K mg base CX0 1 (He.ga K "is_whole") T.fd_is_whole ["thing"] sp_is_whole_sh := by
  refine T.F_is_whole.ok sc_is_whole (fun vs H Q E h => ?_) (fun cdv A outer st H vs Q E hr h => ?_)
  · obtain ⟨l, v, s, rfl, _⟩ := h
    rfl
  · obtain ⟨l, v, s, rfl, hs, kq⟩ := h
    refine ⟨_, PSs.nox (pss_one (ps_ret (pe_and (pe_callB call_isi rfl T.n_isinstance (by decide +kernel) (pa_cons (pv 0) (pa_cons (pe_ty "int" T.n_int (by decide +kernel)) pa_nil))) (pe_one (pe_not (pe_callB call_isi rfl T.n_isinstance (by decide +kernel) (pa_cons (pv 0) (pa_cons (pe_ty "bool" T.n_bool (by decide +kernel)) pa_nil)))))))), ?_⟩
    cases l with
    | zero =>
      obtain rfl : v = .int (s.n : Int) := hs
      refine ⟨_, rfl, _, _, .type "int", .type "int", true, rfl, .ty "int", .base (.int _), kit_ty (by decide +kernel), true, rfl, ?_⟩
      refine iteT ?_
      exact ⟨_, rfl, _, _, .type "int", .type "bool", false, rfl, .ty "bool", .base (.int _), kit_ty (by decide +kernel), _, rfl, kq⟩
    | succ l =>
      obtain ⟨a, xs, rfl, ha, _⟩ := hs
      refine ⟨_, rfl, _, _, .type "tuple", .type "int", false, rfl, .ty "int", .base (.tup ha), kit_ty (by decide +kernel), false, rfl, ?_⟩
      exact iteF kq
def sp_kid_h (N : Nat) : Sp := fun vs H Q _ => ∃ (v : V) (room l : Nat) (s : Sh l), vs = [v, .int (room : Int)] ∧ l < N ∧ 3 ≤ room ∧ room ≤ 8 ∧ ShAt H l v s ∧ WfSh room l false s ∧ l ≤ 50 ∧
  ∀ H', Same H H' → Q (.int ((l + 1 : Nat) : Int)) H'
def sp_node_h (N : Nat) : Sp := fun vs H Q _ => ∃ (v : V) (room least l : Nat) (s : Sh (l + 1)), vs = [v, .int (least : Int), .int (room : Int)] ∧ l < N ∧ 3 ≤ room ∧ room ≤ 8 ∧ ShAt H (l + 1) v s ∧ 1 ≤ least ∧ least ≤ s.ks.length ∧ s.ks.length ≤ room ∧ (∀ k ∈ s.ks, WfSh room l false k) ∧ l ≤ 50 ∧
  ∀ H', Same H H' → Q (.int ((l + 2 : Nat) : Int)) H'
theorem ok_node_h (T : TX K mg) (N : Nat) (G_height_of_kid : FnOk P w K mg base CX0 (2 * N + 2) (He.ga K "height_of_kid") T.fd_height_of_kid ["shape", "room"] (sp_kid_h N)) : FnOk P w K mg base CX0 (2 * N + 3) (He.ga K "height_of_node") T.fd_height_of_node ["shape", "least", "room"] (sp_node_h N) := by
  have b_height_of_kid := b_height_of_kid T
  refine T.F_height_of_node.ok sc_height_of_node (fun vs H Q E h => ?_) (fun cdv A outer st H vs Q E hr h => ?_)
  · obtain ⟨v, room, least, l, s, rfl, _⟩ := h
    rfl
  · obtain ⟨v, room, least, l, s, rfl, hl, r3, r8, ⟨a, xs, rfl, ha, hx⟩, l1, l2, l3, wf, l50, kq⟩ := h
    refine ⟨_, PSs.nox (pss_cons (ps_if (PW.pt (pw_or (pt_not (pt_val (pe_callB call_isi rfl T.n_isinstance (by decide +kernel) (pa_cons (pv 0) (pa_cons (pe_ty "tuple" T.n_tuple (by decide +kernel)) pa_nil))))) (pw_or1 (pt_not (pt_chain op_le op_le (pv 1) (pe_callB call_len_seq rfl T.n_len PySem.boot_len (pa_cons (pv 0) pa_nil)) (pv 2))))))
 (pss_one (ps_ret pe_int))
 pss_nil)
 (pss_cons (ps_set (i := 3) sc_height_of_node.nd rfl (Or.inl rfl) (pe_call G_height_of_kid (hr.mono (by first | decide | omega)) rfl T.g_height_of_kid T.F_height_of_kid.kp b_height_of_kid .nil pass0 (pa_cons (pe_ix ix_tup (pv 0) pe_int (fun _ _ => rfl)) (pa_cons (pv 2) pa_nil))))
 (pss_cons (ps_for PassesOwn.never rfl (pi_zipA rfl T.n_zip (pa_cons (pv 0) (pa_cons (pe_slice EQT.sl_tupN (pv 0) (po_some pe_int) po_none) pa_nil))) (pg_tup rfl (pgs_cons (pg_name (i := 4) sc_height_of_node.nd rfl (Or.inl rfl)) (pgs_cons (pg_name (i := 5) sc_height_of_node.nd rfl (Or.inl rfl)) pgs_nil)))
 (pss_one (ps_if (PW.pt (pw_and (pt_cmpR (op_neD hr.units) (pv 5) (pv 4) (nomark _)) (pw_and1 (pt_cmpR op_ne (pe_call G_height_of_kid (hr.mono (by first | decide | omega)) rfl T.g_height_of_kid T.F_height_of_kid.kp b_height_of_kid .nil pass0 (pa_cons (pv 5) (pa_cons (pv 2) pa_nil))) (pv 3) (nomark _)))))
 (pss_one (ps_ret pe_int))
 pss_nil)))
 (pss_one (ps_ret (pe_ifExp (pt_cmpR op_gt (pv 3) pe_int (nomark _)) (pe_op op_add (pv 3) pe_int) pe_int)))))), ?_⟩
    refine ⟨_, rfl, _, _, .type "tuple", .type "tuple", true, rfl, .ty "tuple", .base (.tup ha), kit_ty (by decide +kernel), true, rfl, ?_⟩
    have xl := hx.length
    refine iteF ⟨_, rfl, _, rfl, a, _, rfl, .inr (SqT.of ha), _, _, rfl, rfl, true, congrArg V.bl (decide_eq_true (by omega)), iteT ?_⟩
    refine ⟨_, rfl, _, _, rfl, rfl, true, congrArg V.bl (decide_eq_true (by omega)), iteF ?_⟩
    obtain ⟨k0, hk0⟩ : ∃ k, s.ks[0]? = some k := ⟨_, List.getElem?_eq_getElem (by omega)⟩
    obtain ⟨x0, hx0, r0⟩ := pget2 hx hk0
    have m0 := List.mem_of_getElem? hk0
    refine ⟨_, rfl, a, _, 0, _, rfl, rfl, SqT.of ha, HX.at_of (j := 0) hx0 rfl, _, rfl, x0, room, l, k0, rfl, hl, r3, r8, r0, wf k0 m0, l50, fun H1 s1 => ?_⟩
    refine ⟨_, rfl, _, rfl, 1, rfl, a, _, rfl, SqT.of (s1 _ _ ha), fun p H2 s2 m2 hp => ?_⟩
    rw [show (1 : Int) = ((1 : Nat) : Int) from rfl, cut_from'] at hp
    have s12 := s1.trans s2
    refine ⟨a, p, _, _, rfl, .inr ⟨SqT.of (s12 _ _ ha), hp, ?_⟩⟩
    have lz : xs.length - 1 = min xs.length (xs.drop 1).length := by
      rw [List.length_drop]
      omega
    refine for_it (RU.walk_zipT lz) (fun i σ H' => ∃ v4 v5, σ = [some (.ref a), some (.int (least : Int)), some (.int (room : Int)), some (.int ((l + 1 : Nat) : Int)), v4, v5] ∧ Same H2 H') ⟨_, _, rfl, Same.refl H2⟩ (fun i σ H' _ z => by obtain ⟨_, _, _, f⟩ := z; exact ⟨SqT.of ((s12.trans f) _ _ ha), sqT_kp (Keep.of f) hp⟩) ?_ ?_
    · rintro i x σ H3 H4 hi ⟨v4, v5, rfl, s3⟩ ⟨tz, x1, x2, rfl, htz, rfl, g1, g2⟩
      replace g1 : xs[i]? = some x1 := g1
      replace g2 : (xs.drop 1)[i]? = some x2 := g2
      rw [List.getElem?_drop, Nat.add_comm] at g2
      obtain ⟨k1, hk1, ra⟩ := pget1 hx g1
      obtain ⟨k2, hk2, rb⟩ := pget1 hx g2
      have sz : Same H3 (upd H3 tz (.tup [x1, x2])) := same_new htz
      have htz' : upd H3 tz (.tup [x1, x2]) tz = some (.tup [x1, x2]) := upd_same
      generalize upd H3 tz (.tup [x1, x2]) = H4 at sz htz'
      have k4 := Keep.of ((s12.trans s3).trans sz)
      refine ⟨tz, _, rfl, SqT.of htz', rfl, _, _, rfl, _, _, rfl, rfl, ?_⟩
      refine ⟨_, rfl, _, rfl, shD l k2, shD l k1, sh_dp (ShAt.keep k4 rb), sh_dp (ShAt.keep k4 ra), sh_shaped (by omega), sh_shaped (by omega), _, rfl, ?_⟩
      cases PyData.eqv (shD l k2) (shD l k1) with
      | true => exact iteF ⟨_, _, rfl, s3.trans sz⟩
      | false =>
        refine iteT ⟨_, rfl, _, rfl, x2, room, l, k2, rfl, hl, r3, r8, ShAt.keep k4 rb, wf k2 (List.mem_of_getElem? hk2), l50, fun H5 s5 => ?_⟩
        refine ⟨_, rfl, rfl, _, rfl, ?_⟩
        have en : ∀ v : V, (!decide (v = v)) = false := fun v => by rw [decide_eq_true rfl]; rfl
        rw [en]
        exact iteF ⟨_, _, rfl, (s3.trans sz).trans s5⟩
    · rintro σ H3 ⟨v4, v5, rfl, s3⟩
      refine ⟨_, rfl, _, _, rfl, rfl, true, congrArg V.bl (decide_eq_true (by omega)), ?_⟩
      exact iteT ⟨_, rfl, _, _, rfl, rfl, kq H3 (s12.trans s3)⟩
theorem ok_kid_h (T : TX K mg) : ∀ N : Nat, FnOk P w K mg base CX0 (2 * N + 2) (He.ga K "height_of_kid") T.fd_height_of_kid ["shape", "room"] (sp_kid_h N) := by
  intro N
  induction N with
  | zero =>
    refine T.F_height_of_kid.ok sc_height_of_kid (fun vs H Q E h => ?_) (fun cdv A outer st H vs Q E hr h => ?_)
    · obtain ⟨v, room, l, s, rfl, _⟩ := h
      rfl
    · obtain ⟨v, room, l, s, rfl, hl, _⟩ := h
      omega
  | succ N ih =>
    have G_height_of_node : FnOk P w K mg base CX0 (2 * N + 3) (He.ga K "height_of_node") T.fd_height_of_node ["shape", "least", "room"] (sp_node_h N) := ok_node_h T N ih
    have b_height_of_node := b_height_of_node T
    have G_half_of : FnOk P w K mg base CX0 1 (He.ga K "half_of") T.fd_half_of ["room"] sp_half_of := ok_half_of T
    have b_half_of := b_half_of T
    have G_is_whole : FnOk P w K mg base CX0 1 (He.ga K "is_whole") T.fd_is_whole ["thing"] sp_is_whole_sh := ok_is_whole_sh T
    have b_is_whole := b_is_whole T
    refine T.F_height_of_kid.ok sc_height_of_kid (fun vs H Q E h => ?_) (fun cdv A outer st H vs Q E hr h => ?_)
    · obtain ⟨v, room, l, s, rfl, _⟩ := h
      rfl
    · obtain ⟨v, room, l, s, rfl, hl, r3, r8, hs, wf, l50, kq⟩ := h
      refine ⟨_, PSs.nox (pss_cons (ps_set (i := 2) sc_height_of_kid.nd rfl (Or.inl rfl) (pe_call G_half_of (hr.mono (by first | decide | omega)) rfl T.g_half_of T.F_half_of.kp b_half_of .nil pass0 (pa_cons (pv 1) pa_nil)))
 (pss_cons (ps_if (pt_val (pe_call G_is_whole (hr.mono (by first | decide | omega)) rfl T.g_is_whole T.F_is_whole.kp b_is_whole .nil pass0 (pa_cons (pv 0) pa_nil)))
 (pss_one (ps_ret (pe_ifExp (pt_chain op_le op_le (pv 2) (pv 0) (pv 1)) pe_int pe_int)))
 pss_nil)
 (pss_one (ps_ret (pe_call G_height_of_node (hr.mono (by first | decide | omega)) rfl T.g_height_of_node T.F_height_of_node.kp b_height_of_node .nil pass0 (pa_cons (pv 0) (pa_cons (pv 2) (pa_cons (pv 1) pa_nil)))))))), ?_⟩
      refine ⟨_, rfl, room, rfl, ?_⟩
      refine ⟨_, rfl, l, v, s, rfl, hs, _, rfl, ?_⟩
      cases l with
      | zero =>
        obtain rfl : v = .int (s.n : Int) := hs
        obtain ⟨w1, w2⟩ := wf
        have e1 : loS room 0 false = (room + 1) / 2 := rfl
        refine iteT ⟨_, rfl, _, rfl, _, _, rfl, rfl, true, congrArg V.bl (decide_eq_true (by omega)), iteT ?_⟩
        refine ⟨_, rfl, _, _, rfl, rfl, true, congrArg V.bl (decide_eq_true (by omega)), ?_⟩
        exact iteT (kq H (Same.refl H))
      | succ l =>
        obtain ⟨w1, w2, w3⟩ := wf
        have e1 : loS room (l + 1) false = (room + 1) / 2 := rfl
        refine iteF ⟨_, rfl, _, rfl, _, rfl, v, room, (room + 1) / 2, l, s, rfl, by omega, r3, r8, hs, by omega, by omega, w2, w3, by omega, fun H1 s1 => kq H1 s1⟩
def sp_shape_h : Sp := fun vs H Q _ => ∃ (v : V) (room l : Nat) (s : Sh l), vs = [v, .int (room : Int)] ∧ l ≤ 8 ∧ 3 ≤ room ∧ room ≤ 8 ∧ ShAt H l v s ∧ WfSh room l true s ∧
  ∀ H', Same H H' → Q (.int ((l + 1 : Nat) : Int)) H'
theorem ok_height_of_shape (T : TX K mg) : FnOk P w K mg base CX0 20 (He.ga K "height_of_shape") T.fd_height_of_shape ["shape", "room"] sp_shape_h := by
  have G_height_of_node : FnOk P w K mg base CX0 19 (He.ga K "height_of_node") T.fd_height_of_node ["shape", "least", "room"] (sp_node_h 8) := ok_node_h T 8 (ok_kid_h T 8)
  have b_height_of_node := b_height_of_node T
  have G_is_whole : FnOk P w K mg base CX0 1 (He.ga K "is_whole") T.fd_is_whole ["thing"] sp_is_whole_sh := ok_is_whole_sh T
  have b_is_whole := b_is_whole T
  have G_is_between : FnOk P w K mg base CX0 2 (He.ga K "is_between") T.fd_is_between ["thing", "low", "high"] sp_is_between := ok_is_between T
  have b_is_between := b_is_between T
  refine T.F_height_of_shape.ok sc_height_of_shape (fun vs H Q E h => ?_) (fun cdv A outer st H vs Q E hr h => ?_)
  · obtain ⟨v, room, l, s, rfl, _⟩ := h
    rfl
  · obtain ⟨v, room, l, s, rfl, hl, r3, r8, hs, wf, kq⟩ := h
    refine ⟨_, PSs.nox (pss_cons (ps_if (pt_val (pe_call G_is_whole (hr.mono (by first | decide | omega)) rfl T.g_is_whole T.F_is_whole.kp b_is_whole .nil pass0 (pa_cons (pv 0) pa_nil)))
 (pss_one (ps_ret (pe_ifExp (pt_val (pe_call G_is_between (hr.mono (by first | decide | omega)) rfl T.g_is_between T.F_is_between.kp b_is_between .nil pass0 (pa_cons (pv 0) (pa_cons pe_int (pa_cons (pv 1) pa_nil))))) pe_int pe_int)))
 pss_nil)
 (pss_one (ps_ret (pe_call G_height_of_node (hr.mono (by first | decide | omega)) rfl T.g_height_of_node T.F_height_of_node.kp b_height_of_node .nil pass0 (pa_cons (pv 0) (pa_cons pe_int (pa_cons (pv 1) pa_nil))))))), ?_⟩
    refine ⟨_, rfl, l, v, s, rfl, hs, _, rfl, ?_⟩
    cases l with
    | zero =>
      obtain rfl : v = .int (s.n : Int) := hs
      obtain ⟨w1, w2⟩ := wf
      refine iteT ⟨_, rfl, _, rfl, _, _, _, rfl, _, rfl, ?_⟩
      rw [decide_eq_true (by omega : (0 : Int) ≤ (s.n : Int)), decide_eq_true (by omega : (s.n : Int) ≤ (room : Int))]
      exact iteT (kq H (Same.refl H))
    | succ l =>
      obtain ⟨w1, w2, w3⟩ := wf
      have e1 : loS room (l + 1) true = 2 := rfl
      refine iteF ⟨_, rfl, _, rfl, v, room, 2, l, s, rfl, by omega, r3, r8, hs, by omega, by omega, w2, w3, by omega, fun H1 s1 => kq H1 s1⟩
def sp_need_shape : Sp := fun vs H Q _ => ∃ (v : V) (room l : Nat) (s : Sh l), vs = [v, .int (room : Int)] ∧ l ≤ 8 ∧ 3 ≤ room ∧ room ≤ 8 ∧ ShAt H l v s ∧ WfSh room l true s ∧
  ∀ H', Same H H' → Q .non H'
theorem ok_need_shape (T : TX K mg) : FnOk P w K mg base CX0 21 (He.ga K "need_shape") T.fd_need_shape ["thing", "room"] sp_need_shape := by
  have G_height_of_shape : FnOk P w K mg base CX0 20 (He.ga K "height_of_shape") T.fd_height_of_shape ["shape", "room"] sp_shape_h := ok_height_of_shape T
  have b_height_of_shape := b_height_of_shape T
  refine T.F_need_shape.ok sc_need_shape (fun vs H Q E h => ?_) (fun cdv A outer st H vs Q E hr h => ?_)
  · obtain ⟨v, room, l, s, rfl, _⟩ := h
    rfl
  · obtain ⟨v, room, l, s, rfl, hl, r3, r8, hs, wf, kq⟩ := h
    refine ⟨_, PSs.nox (pss_one (ps_if (pt_cmpR op_eq (pe_call G_height_of_shape (hr.mono (by first | decide | omega)) rfl T.g_height_of_shape T.F_height_of_shape.kp b_height_of_shape .nil pass0 (pa_cons (pv 0) (pa_cons (pv 1) pa_nil))) pe_int (nomark _))
 (pss_one ps_never)
 pss_nil)), ?_⟩
    refine ⟨_, rfl, _, rfl, v, room, l, s, rfl, hl, r3, r8, hs, wf, fun H1 s1 => ⟨rfl, _, rfl, ?_⟩⟩
    refine (congrArg (fun b => (if b = true then _ else _)) (decide_eq_false (fun e => by injection e; omega) : decide (V.int ((l + 1 : Nat) : Int) = V.int 0) = false)).mpr (iteF ?_)
    exact kq H1 s1
/-! pairs in a shape -/
def sp_pairs_in_shape (N : Nat) : Sp := fun vs H Q _ => ∃ (v : V) (l : Nat) (s : Sh l), vs = [v] ∧ l < N ∧ ShAt H l v s ∧ l ≤ 50 ∧ PosS l s ∧
  ∀ H', Same H H' → Q (.int ((cntS l s : Nat) : Int)) H'
theorem ok_pairs_in_shape (T : TX K mg) : ∀ N : Nat, FnOk P w K mg base CX0 (N + 2) (He.ga K "pairs_in_shape") T.fd_pairs_in_shape ["shape"] (sp_pairs_in_shape N) := by
  intro N
  induction N with
  | zero =>
    refine T.F_pairs_in_shape.ok sc_pairs_in_shape (fun vs H Q E h => ?_) (fun cdv A outer st H vs Q E hr h => ?_)
    · obtain ⟨v, l, s, rfl, _⟩ := h
      rfl
    · obtain ⟨v, l, s, rfl, hl, _⟩ := h
      omega
  | succ N ih =>
    have G_pairs_in_shape := ih
    have b_pairs_in_shape := b_pairs_in_shape T
    have G_is_whole : FnOk P w K mg base CX0 1 (He.ga K "is_whole") T.fd_is_whole ["thing"] sp_is_whole_sh := ok_is_whole_sh T
    have b_is_whole := b_is_whole T
    refine T.F_pairs_in_shape.ok sc_pairs_in_shape (fun vs H Q E h => ?_) (fun cdv A outer st H vs Q E hr h => ?_)
    · obtain ⟨v, l, s, rfl, _⟩ := h
      rfl
    · obtain ⟨v, l, s, rfl, hl, hs, l50, pos, kq⟩ := h
      refine ⟨_, PSs.nox (pss_cons (ps_if (pt_val (pe_call G_is_whole (hr.mono (by first | decide | omega)) rfl T.g_is_whole T.F_is_whole.kp b_is_whole .nil pass0 (pa_cons (pv 0) pa_nil)))
 (pss_one (ps_ret (pv 0)))
 pss_nil)
 (pss_cons (ps_asg2 (pe_call G_pairs_in_shape (hr.mono (by first | decide | omega)) rfl T.g_pairs_in_shape T.F_pairs_in_shape.kp b_pairs_in_shape .nil pass0 (pa_cons (pe_ix ix_tup (pv 0) pe_int (fun _ _ => rfl)) pa_nil)) (pg_name (i := 1) sc_pairs_in_shape.nd rfl (Or.inl rfl)) (pg_name (i := 2) sc_pairs_in_shape.nd rfl (Or.inl rfl)))
 (pss_cons (ps_for PassesOwn.never rfl (pi_zipA rfl T.n_zip (pa_cons (pv 0) (pa_cons (pe_slice EQT.sl_tupN (pv 0) (po_some pe_int) po_none) pa_nil))) (pg_tup rfl (pgs_cons (pg_name (i := 3) sc_pairs_in_shape.nd rfl (Or.inl rfl)) (pgs_cons (pg_name (i := 4) sc_pairs_in_shape.nd rfl (Or.inl rfl)) pgs_nil)))
 (pss_cons (ps_if (pt_cmpR (op_neD hr.units) (pv 4) (pv 3) (nomark _))
 (pss_one (ps_set (i := 2) sc_pairs_in_shape.nd rfl (Or.inl rfl) (pe_call G_pairs_in_shape (hr.mono (by first | decide | omega)) rfl T.g_pairs_in_shape T.F_pairs_in_shape.kp b_pairs_in_shape .nil pass0 (pa_cons (pv 4) pa_nil))))
 pss_nil)
 (pss_one (ps_aug (i := 1) sc_pairs_in_shape.nd rfl (Or.inl rfl) (pv 2) ip_add))))
 (pss_one (ps_ret (pv 1)))))), ?_⟩
      refine ⟨_, rfl, l, v, s, rfl, hs, _, rfl, ?_⟩
      cases l with
      | zero =>
        obtain rfl : v = .int (s.n : Int) := hs
        exact iteT ⟨_, rfl, kq H (Same.refl H)⟩
      | succ l =>
        obtain ⟨a, xs, rfl, ha, hx⟩ := hs
        obtain ⟨p1, p2⟩ := pos
        have xl := hx.length
        have p0 : 0 < s.ks.length := List.length_pos_iff.mpr p1
        obtain ⟨k0, hk0⟩ : ∃ k, s.ks[0]? = some k := ⟨_, List.getElem?_eq_getElem p0⟩
        obtain ⟨x0, hx0, r0⟩ := pget2 hx hk0
        have m0 := List.mem_of_getElem? hk0
        refine iteF ⟨_, rfl, a, _, 0, _, rfl, rfl, SqT.of ha, HX.at_of (j := 0) hx0 rfl, x0, l, k0, rfl, by omega, r0, by omega, p2 k0 m0, fun H1 s1 => ?_⟩
        refine ⟨_, rfl, _, rfl, 1, rfl, a, _, rfl, SqT.of (s1 _ _ ha), fun p H2 s2 m2 hp => ?_⟩
        rw [show (1 : Int) = ((1 : Nat) : Int) from rfl, cut_from'] at hp
        have s12 := s1.trans s2
        refine ⟨a, p, _, _, rfl, .inr ⟨SqT.of (s12 _ _ ha), hp, ?_⟩⟩
        have lz : xs.length - 1 = min xs.length (xs.drop 1).length := by
          rw [List.length_drop]
          omega
        have st : ∀ {i : Nat} {k : Sh l}, s.ks[i]? = some k → ((((s.ks.take i).map (cntS l)).sum : Nat) : Int) + ((cntS l k : Nat) : Int) = (((((s.ks.take (i + 1)).map (cntS l)).sum : Nat)) : Int) := fun {i k} h => by
          rw [sum_more (cntS l) h]
          omega
        refine for_it (RU.walk_zipT lz) (fun i σ H' => ∃ v3 v4 k, σ = [some (.ref a), some (.int (((((s.ks.take (i + 1)).map (cntS l)).sum : Nat)) : Int)), some (.int ((cntS l k : Nat) : Int)), v3, v4] ∧ s.ks[i]? = some k ∧ Same H2 H') ⟨none, none, k0, ?_, hk0, Same.refl H2⟩ (fun i σ H' _ z => by obtain ⟨_, _, _, _, _, f⟩ := z; exact ⟨SqT.of ((s12.trans f) _ _ ha), sqT_kp (Keep.of f) hp⟩) ?_ ?_
        · have e0 : ((s.ks.take (0 + 1)).map (cntS l)).sum = cntS l k0 := by
            rw [sum_more (cntS l) hk0]
            simp
          rw [e0]
          rfl
        · rintro i x σ H3 H4 hi ⟨v3, v4, k, rfl, hk, s3⟩ ⟨tz, x1, x2, rfl, htz, rfl, g1, g2⟩
          replace g1 : xs[i]? = some x1 := g1
          replace g2 : (xs.drop 1)[i]? = some x2 := g2
          rw [List.getElem?_drop, Nat.add_comm] at g2
          obtain ⟨k1, hk1, ra⟩ := pget1 hx g1
          obtain ⟨k2, hk2, rb⟩ := pget1 hx g2
          rw [hk] at hk1
          cases hk1
          have sz : Same H3 (upd H3 tz (.tup [x1, x2])) := same_new htz
          have htz' : upd H3 tz (.tup [x1, x2]) tz = some (.tup [x1, x2]) := upd_same
          generalize upd H3 tz (.tup [x1, x2]) = H4 at sz htz'
          have k4 := Keep.of ((s12.trans s3).trans sz)
          refine ⟨tz, _, rfl, SqT.of htz', rfl, _, _, rfl, _, _, rfl, rfl, ?_⟩
          refine ⟨_, rfl, _, rfl, shD l k2, shD l k, sh_dp (ShAt.keep k4 rb), sh_dp (ShAt.keep k4 ra), sh_shaped (by omega), sh_shaped (by omega), _, rfl, ?_⟩
          cases e : PyData.eqv (shD l k2) (shD l k) with
          | true =>
            have ek := eqv_sh e
            subst ek
            refine iteF ⟨_, rfl, _, rfl, _, _, rfl, rfl, ?_⟩
            exact ⟨_, _, k2, by rw [← st hk2]; rfl, hk2, s3.trans sz⟩
          | false =>
            refine iteT ⟨_, rfl, x2, l, k2, rfl, by omega, ShAt.keep k4 rb, by omega, p2 k2 (List.mem_of_getElem? hk2), fun H5 s5 => ?_⟩
            refine ⟨_, rfl, _, rfl, _, _, rfl, rfl, ?_⟩
            exact ⟨_, _, k2, by rw [← st hk2]; rfl, hk2, (s3.trans sz).trans s5⟩
        · rintro σ H3 ⟨v3, v4, k, rfl, hk, s3⟩
          refine ⟨_, rfl, ?_⟩
          have z := kq H3 (s12.trans s3)
          rw [show xs.length - 1 + 1 = s.ks.length by omega, List.take_length]
          exact z
end
end K30

namespace K30
open PySem PySem.Spec PyProof.Rows L2 RZ HX TR RP EQT
theorem paired_mapr {α β γ : Type} {R : α → γ → Prop} {f : β → γ} : ∀ {xs : List α} {ys : List β}, Paired (fun x y => R x (f y)) xs ys → Paired R xs (ys.map f)
  | _, _, .nil => .nil
  | _, _, .cons r rs => .cons r (paired_mapr rs)
section
variable {P : Program} {w : World} {K : PySem.W.Frag} {mg : Str → Option Value} {base : Heap}
def sp_shape_beneath (N : Nat) : Sp := fun vs H Q _ => ∃ (l room : Nat) (top : Bool) (t : Tr l) (d : Addr) (S : List (Int × Pg)), vs = [.ref d, .int (num l t)] ∧ l < N ∧ DctAt H d S ∧ Laid S l t ∧ room ≤ 8 ∧ WfSh room l top (shp l t) ∧
  ∀ (H' : Hp) (v : V), Same H H' → ShAt H' l v (shp l t) → Q v H'
theorem ok_shape_beneath (T : TX K mg) : ∀ N : Nat, FnOk P w K mg base CX0 (N + 1) (He.ga K "shape_beneath") T.fd_shape_beneath ["pages", "number"] (sp_shape_beneath N) := by
  intro N
  induction N with
  | zero =>
    refine T.F_shape_beneath.ok sc_shape_beneath (fun vs H Q E h => ?_) (fun cdv A outer st H vs Q E hr h => ?_)
    · obtain ⟨l, room, top, t, d, S, rfl, _⟩ := h
      rfl
    · obtain ⟨l, room, top, t, d, S, rfl, hl, _⟩ := h
      omega
  | succ N ih =>
    have G_shape_beneath := ih
    have b_shape_beneath := b_shape_beneath T
    refine T.F_shape_beneath.ok sc_shape_beneath (fun vs H Q E h => ?_) (fun cdv A outer st H vs Q E hr h => ?_)
    · obtain ⟨l, room, top, t, d, S, rfl, _⟩ := h
      rfl
    · obtain ⟨l, room, top, t, d, S, rfl, hl, hd, hL, r8, wf, kq⟩ := h
      refine ⟨_, PSs.nox (pss_cons (ps_asg (pe_dget (hu_of hr) (pv 0) (pv 1) (fun _ _ => rfl)) (pg_tup rfl (pgs_cons (pg_name (i := 2) sc_shape_beneath.nd rfl (Or.inl rfl)) (pgs_cons (pg_name (i := 3) sc_shape_beneath.nd rfl (Or.inl rfl)) (pgs_cons (pg_name (i := 4) sc_shape_beneath.nd rfl (Or.inl rfl)) pgs_nil)))))
 (pss_cons (ps_if (pt_cmpR op_eq (pv 2) pe_str (nomark _))
 (pss_one (ps_ret (pe_callB call_len_seq rfl T.n_len PySem.boot_len (pa_cons (pe_ix ix_tup (pe_dget (hu_of hr) (pv 0) (pv 1) (fun _ _ => rfl)) pe_int (fun _ _ => rfl)) pa_nil))))
 pss_nil)
 (pss_one (ps_ret (pe_callTy call_tuple_of rfl T.n_tuple (by decide +kernel) (pa_cons (pe_lc (own := [("kid", 5)]) (g := gName 5) (tt := tYes) rfl sc_shape_beneath.nd (pi_tup (pv 4)) (blkOk_by (own := [("kid", 5)]) (N := ["pages", "number", "kind", "_", "kids", "kid"]) (sc := defScope s_shape_beneath) (by decide +kernel)) (fun _ _ _ _ _ => (pg_name (i := 5) sc_shape_beneath.nd rfl (Or.inl rfl))) (fun _ _ _ _ _ => pts_nil) (fun _ _ _ _ _ => (pe_call G_shape_beneath (hr.mono (by first | decide | omega)) rfl T.g_shape_beneath T.F_shape_beneath.kp b_shape_beneath .nil pass0 (pa_cons (pv 0) (pa_cons (pv 5) pa_nil))))) pa_nil)))))), ?_⟩
      cases l with
      | zero =>
        obtain ⟨nx, hk⟩ := hL
        obtain ⟨v, hv, t1, q, rfl, ht1, xs, hq, hpx⟩ := hd.get hk
        refine ⟨_, rfl, _, rfl, d, _, rfl, hv, t1, _, rfl, SqT.of ht1, rfl, _, _, rfl, _, _, rfl, _, _, rfl, rfl, ?_⟩
        refine ⟨_, rfl, rfl, _, rfl, iteT ?_⟩
        refine ⟨_, rfl, _, rfl, d, _, rfl, hv, t1, _, 1, _, rfl, rfl, SqT.of ht1, rfl, q, _, rfl, .inr hq.sq, ?_⟩
        rw [hpx.length]
        exact kq H _ (Same.refl H) rfl
      | succ l =>
        obtain ⟨hk, hks⟩ := hL
        obtain ⟨v, hv, t1, q1, q2, rfl, ht1, _, hq2⟩ := hd.get hk
        obtain ⟨w1, w2, w3⟩ := wf
        have kl : t.kids.length ≤ 8 := by
          have e : (shp (l + 1) t).ks.length = t.kids.length := by
            show (t.kids.map (shp l)).length = _
            rw [List.length_map]
          omega
        refine ⟨_, rfl, _, rfl, d, _, rfl, hv, t1, _, rfl, SqT.of ht1, rfl, _, _, rfl, _, _, rfl, _, _, rfl, rfl, ?_⟩
        refine ⟨_, rfl, rfl, _, rfl, iteF ?_⟩
        refine ⟨_, rfl, q2, rfl, ⟨_, hq2.sq⟩, fun L hL0 => ?_⟩
        refine lc_it (walk_tup (xs := (t.kids.map (num l)).map V.int)) (fun j H' => Same H H' ∧ ∃ xs, H' L = some (.lst xs) ∧ xs.length = j ∧ Paired (fun x k => ShAt H' l x (shp l k)) xs (t.kids.take j)) ⟨same_new hL0, [], upd_same, rfl, .nil⟩ (fun j H' _ z => (FzT.same z.1 hq2).sq) ?_ ?_
        · rintro j x H3 H4 hj ⟨s3, xs, hL3, ej, hpx⟩ ⟨rfl, hx⟩
          obtain ⟨n, hn, rfl⟩ := map_at hx
          obtain ⟨k, hk', rfl⟩ := map_at hn
          have mk := List.mem_of_getElem? hk'
          refine ⟨rfl, ?_⟩
          dsimp only [tYes]
          rw [if_pos rfl]
          refine ⟨_, rfl, _, rfl, l, room, false, k, d, S, rfl, by omega, hd.same s3, hks k mk, r8, w3 (shp l k) (List.mem_map_of_mem mk), fun H5 v5 s5 hv5 => ?_⟩
          have hL5 := s5 _ _ hL3
          have k6 : Keep H5 (upd H5 L (.lst (xs ++ [v5]))) := (Keep.refl _).upd fun zs e => by rw [hL5] at e; cases e; rfl
          refine ⟨xs, hL5, ?_, same_upd (s3.trans s5) hL0, xs ++ [v5], upd_same, by rw [List.length_append, ej]; rfl, ?_⟩
          · rw [ej]
            exact Nat.lt_of_le_of_lt (by have := (List.getElem?_eq_some_iff.mp hk').1; omega : _ ≤ 8) (by decide)
          · rw [take_more hk']
            exact paired_snoc (R := fun x (k : Tr l) => ShAt _ l x (shp l k)) (ShAt.keep k6 hv5) (paired_imp (R := fun x (k : Tr l) => ShAt H4 l x (shp l k)) (fun _ _ r => ShAt.keep ((Keep.of s5).trans k6) r) hpx)
        · rintro H3 ⟨s3, xs, hL3, ej, hpx⟩
          rw [List.take_of_length_le (by rw [List.length_map, List.length_map]; exact Nat.le_refl _)] at hpx
          refine ⟨L, _, rfl, .inl ⟨SqL.of hL3, fun a ha => ?_⟩⟩
          have s4 : Same H3 (upd H3 a (.tup xs)) := same_new ha
          refine kq _ _ (s3.trans s4) ⟨a, xs, rfl, upd_same, ?_⟩
          exact paired_mapr (paired_imp (R := fun x (k : Tr l) => ShAt H3 l x (shp l k)) (fun _ _ r => ShAt.keep (Keep.of s4) r) hpx)
def sp_shape_of : Sp := fun vs H Q _ => ∃ (v : V) (room l : Nat) (t : Tr l) (S : List (Int × Pg)), vs = [v] ∧ SndAt H v room l t S ∧ l ≤ 8 ∧
  ∀ (H' : Hp) (v : V), Same H H' → ShAt H' l v (shp l t) → Q v H'
theorem ok_shape_of (T : TX K mg) : FnOk P w K mg base CX0 13 (He.ga K "shape_of") T.fd_shape_of ["tree"] sp_shape_of := by
  have G_need_tree : FnOk P w K mg base CX0 12 (He.ga K "need_tree") T.fd_need_tree ["thing"] sp_need_tree := ok_need_tree T
  have b_need_tree := b_need_tree T
  have G_shape_beneath : FnOk P w K mg base CX0 10 (He.ga K "shape_beneath") T.fd_shape_beneath ["pages", "number"] (sp_shape_beneath 9) := ok_shape_beneath T 9
  have b_shape_beneath := b_shape_beneath T
  refine T.F_shape_of.ok sc_shape_of (fun vs H Q E h => ?_) (fun cdv A outer st H vs Q E hr h => ?_)
  · obtain ⟨v, room, l, t, S, rfl, _⟩ := h
    rfl
  · obtain ⟨v, room, l, t, S, rfl, hsnd, hl, kq⟩ := h
    refine ⟨_, PSs.nox (pss_cons (ps_expr (pe_call G_need_tree (hr.mono (by first | decide | omega)) rfl T.g_need_tree T.F_need_tree.kp b_need_tree .nil pass0 (pa_cons (pv 0) pa_nil)))
 (pss_one (ps_ret (pe_call G_shape_beneath (hr.mono (by first | decide | omega)) rfl T.g_shape_beneath T.F_shape_beneath.kp b_shape_beneath .nil pass0 (pa_cons (pe_callTy (RU.call_dictT rfl) rfl T.n_dict (by decide +kernel) (pa_cons (pe_ix ix_tup (pv 0) pe_int (fun _ _ => rfl)) pa_nil)) (pa_cons (pe_ix ix_tup (pv 0) pe_int (fun _ _ => rfl)) pa_nil)))))), ?_⟩
    refine ⟨_, rfl, v, room, l, t, S, rfl, hsnd, by omega, fun H1 s1 => ?_⟩
    obtain ⟨a, b, o, xs, ev, ha, hb, ho, hx⟩ := hsnd.at_.same s1
    subst ev
    have h := hsnd.tree
    have ndS : (S.map (·.1)).Nodup := h.perm.nodup_iff.mpr h.nodup
    obtain ⟨ps, kvs, e, p1, p2, p3⟩ := num_pairs (K := K) hx
    subst e
    refine ⟨_, rfl, a, _, _, _, rfl, rfl, SqT.of ha, rfl, b, o, ps, kvs, rfl, hb, ho, p1, fun d hd0 => ?_⟩
    obtain ⟨s2, hd⟩ := pages_dict p2 p3 ndS hd0
    generalize upd H1 d (.dK (mergeK [] kvs)) = H2 at s2 hd
    refine ⟨_, rfl, a, _, _, _, rfl, rfl, SqT.of (s2 _ _ ha), rfl, l, room, true, t, d, S, rfl, by omega, hd, h.laid, h.r8, h.wf, fun H3 v3 s3 h3 => kq H3 v3 ((s1.trans s2).trans s3) h3⟩
end
end K30

namespace K30
open PySem PySem.Spec PyProof.Rows L2 RZ HX TR RP EQT
/-! a tree set down: pages numbered from the top, each kid's pages behind one another -/
def setKids {l : Nat} (f : Sh l → Nat → List (Int × Int) → Tr l) : List (Sh l) → Nat → List (Int × Int) → List (Tr l)
  | [], _, _ => []
  | k :: ks, a, ps => f k a (ps.take (cntS l k)) :: setKids f ks (a + pgsS l k) (ps.drop (cntS l k))
def frs (ps : List (Int × Int)) : Int := (ps.map (·.1)).headD 0
def setT : (l : Nat) → Sh l → Nat → List (Int × Int) → Tr l
  | 0, _, a, ps => lfT ((a + 1 : Nat) : Int) ps
  | l + 1, s, a, ps => ndT ((a + 1 : Nat) : Int) (((setKids (setT l) s.ks (a + 1) ps).map fun t => frs (prs l t)).drop 1) (setKids (setT l) s.ks (a + 1) ps)
/-- the pages of a tree in the order in which they are set down, no leaf yet linked -/
def pre : (l : Nat) → Tr l → List Pg
  | 0, t => [.leaf t.ps 0]
  | l + 1, t => .node t.keys (t.kids.map (num l)) :: t.kids.flatMap (pre l)
theorem set_num : ∀ {l : Nat} {s : Sh l} {a : Nat} {ps : List (Int × Int)}, num l (setT l s a ps) = ((a + 1 : Nat) : Int)
  | 0, _, _, _ => rfl
  | _ + 1, _, _, _ => rfl
theorem setKids_len {l : Nat} {f : Sh l → Nat → List (Int × Int) → Tr l} : ∀ {ks : List (Sh l)} {a : Nat} {ps : List (Int × Int)}, (setKids f ks a ps).length = ks.length
  | [], _, _ => rfl
  | k :: ks, a, ps => by
    show (setKids f ks _ _).length + 1 = _
    rw [setKids_len, List.length_cons]
theorem setKids_at {l : Nat} {f : Sh l → Nat → List (Int × Int) → Tr l} : ∀ {ks : List (Sh l)} {a : Nat} {ps : List (Int × Int)} {i : Nat} {k : Sh l}, ks[i]? = some k → (setKids f ks a ps)[i]? = some (f k (a + ((ks.take i).map (pgsS l)).sum) ((ps.drop ((ks.take i).map (cntS l)).sum).take (cntS l k)))
  | k :: ks, a, ps, 0, _, h => by
    cases h
    rfl
  | k :: ks, a, ps, i + 1, x, h => by
    rw [List.getElem?_cons_succ] at h
    show (setKids f ks (a + pgsS l k) (ps.drop (cntS l k)))[i]? = _
    rw [setKids_at h, List.take_succ_cons, List.map_cons, List.sum_cons, List.map_cons, List.sum_cons, List.drop_drop, Nat.add_assoc]
theorem setKids_shp {l : Nat} {f : Sh l → Nat → List (Int × Int) → Tr l} : ∀ {ks : List (Sh l)} {a : Nat} {ps : List (Int × Int)}, (∀ k ∈ ks, ∀ (a : Nat) (ps : List (Int × Int)), ps.length = cntS l k → shp l (f k a ps) = k) → ps.length = (ks.map (cntS l)).sum → (setKids f ks a ps).map (shp l) = ks
  | [], _, _, _, _ => rfl
  | k :: ks, a, ps, h, e => by
    rw [List.map_cons, List.sum_cons] at e
    show shp l (f k a _) :: (setKids f ks _ _).map (shp l) = _
    rw [h k (List.mem_cons_self ..) _ _ (by rw [List.length_take]; omega), setKids_shp (fun x hx => h x (List.mem_cons_of_mem _ hx)) (by rw [List.length_drop]; omega)]
theorem set_shp : ∀ {l : Nat} {s : Sh l} {a : Nat} {ps : List (Int × Int)}, ps.length = cntS l s → shp l (setT l s a ps) = s
  | 0, _, _, _, h => h
  | l + 1, s, a, ps, h => setKids_shp (fun k _ a ps e => set_shp e) h
theorem setKids_prs {l : Nat} {f : Sh l → Nat → List (Int × Int) → Tr l} : ∀ {ks : List (Sh l)} {a : Nat} {ps : List (Int × Int)}, (∀ k ∈ ks, ∀ (a : Nat) (ps : List (Int × Int)), ps.length = cntS l k → prs l (f k a ps) = ps) → ps.length = (ks.map (cntS l)).sum → (setKids f ks a ps).flatMap (prs l) = ps
  | [], _, _, _, e => (List.eq_nil_of_length_eq_zero e).symm
  | k :: ks, a, ps, h, e => by
    rw [List.map_cons, List.sum_cons] at e
    show (f k a _ :: setKids f ks _ _).flatMap (prs l) = _
    rw [List.flatMap_cons, h k (List.mem_cons_self ..) _ _ (by rw [List.length_take]; omega), setKids_prs (fun x hx => h x (List.mem_cons_of_mem _ hx)) (by rw [List.length_drop]; omega), List.take_append_drop]
theorem set_prs : ∀ {l : Nat} {s : Sh l} {a : Nat} {ps : List (Int × Int)}, ps.length = cntS l s → prs l (setT l s a ps) = ps
  | 0, _, _, _, _ => rfl
  | l + 1, s, a, ps, h => setKids_prs (fun k _ a ps e => set_prs e) h
/-- the numbers from a + 1 on -/
def runN (a n : Nat) : List Int := (List.range n).map fun i => ((a + i + 1 : Nat) : Int)
theorem runN_add {a m n : Nat} : runN a (m + n) = runN a m ++ runN (a + m) n := by
  unfold runN
  rw [List.range_add, List.map_append, List.map_map]
  congr 1
  exact List.map_congr_left fun i _ => by
    show ((a + (m + i) + 1 : Nat) : Int) = ((a + m + i + 1 : Nat) : Int)
    rw [Nat.add_assoc a m i]
theorem setKids_nums {l : Nat} {f : Sh l → Nat → List (Int × Int) → Tr l} : ∀ {ks : List (Sh l)} {a : Nat} {ps : List (Int × Int)}, (∀ k ∈ ks, ∀ (a : Nat) (ps : List (Int × Int)), nums l (f k a ps) = runN a (pgsS l k)) → (setKids f ks a ps).flatMap (nums l) = runN a ((ks.map (pgsS l)).sum)
  | [], _, _, _ => rfl
  | k :: ks, a, ps, h => by
    show (f k a _ :: setKids f ks _ _).flatMap (nums l) = _
    rw [List.flatMap_cons, h k (List.mem_cons_self ..), setKids_nums fun x hx => h x (List.mem_cons_of_mem _ hx), List.map_cons, List.sum_cons, runN_add]
theorem set_nums : ∀ {l : Nat} {s : Sh l} {a : Nat} {ps : List (Int × Int)}, nums l (setT l s a ps) = runN a (pgsS l s)
  | 0, _, _, _ => rfl
  | l + 1, s, a, ps => by
    have z := setKids_nums (ks := s.ks) (a := a + 1) (ps := ps) (fun k _ a ps => set_nums (l := l) (s := k) (a := a) (ps := ps))
    show ((a + 1 : Nat) : Int) :: (setKids (setT l) s.ks (a + 1) ps).flatMap (nums l) = runN a (1 + (s.ks.map (pgsS l)).sum)
    rw [z, runN_add]
    rfl
theorem pre_len : ∀ {l : Nat} {t : Tr l}, (pre l t).length = (nums l t).length
  | 0, _ => rfl
  | l + 1, t => by
    have e1 : (pre (l + 1) t).length = (t.kids.flatMap (pre l)).length + 1 := rfl
    have e2 : (nums (l + 1) t).length = (t.kids.flatMap (nums l)).length + 1 := rfl
    rw [e1, e2, List.length_flatMap, List.length_flatMap]
    congr 2
    exact List.map_congr_left fun k _ => pre_len
theorem set_pre_len {l : Nat} {s : Sh l} {a : Nat} {ps : List (Int × Int)} : (pre l (setT l s a ps)).length = pgsS l s := by
  rw [pre_len, set_nums]
  unfold runN
  rw [List.length_map, List.length_range]
/-- the pages set down: where a number's page lies -/
theorem pre_at : ∀ {l : Nat} {s : Sh l} {a : Nat} {ps : List (Int × Int)} {D : List (Int × Pg)}, (∀ i : Nat, ∀ g, (pre l (setT l s a ps))[i]? = some g → ∃ g', lkp D ((a + i + 1 : Nat) : Int) = some g' ∧ (match g with | .node _ _ => g' = g | .leaf qs _ => ∃ nx, g' = .leaf qs nx)) → Laid D l (setT l s a ps)
  | 0, s, a, ps, D, h => by
    obtain ⟨g', h1, nx, rfl⟩ := h 0 (.leaf ps 0) rfl
    exact ⟨nx, h1⟩
  | l + 1, s, a, ps, D, h => by
    refine ⟨?_, ?_⟩
    · obtain ⟨g', h1, rfl⟩ := h 0 _ rfl
      exact h1
    · have go : ∀ (ks : List (Sh l)) (b : Nat) (qs : List (Int × Int)), (∀ i : Nat, ∀ g, ((setKids (setT l) ks b qs).flatMap (pre l))[i]? = some g → ∃ g', lkp D ((b + i + 1 : Nat) : Int) = some g' ∧ (match g with | .node _ _ => g' = g | .leaf qs _ => ∃ nx, g' = .leaf qs nx)) → ∀ k ∈ setKids (setT l) ks b qs, Laid D l k := by
        intro ks
        induction ks with
        | nil => intro b qs _ k hk; cases hk
        | cons k ks ih =>
          intro b qs hh x hx
          have e : (setKids (setT l) (k :: ks) b qs).flatMap (pre l) = pre l (setT l k b (qs.take (cntS l k))) ++ (setKids (setT l) ks (b + pgsS l k) (qs.drop (cntS l k))).flatMap (pre l) := List.flatMap_cons ..
          rw [e] at hh
          rcases List.mem_cons.mp hx with rfl | hx
          · refine pre_at fun i g hg => hh i g ?_
            rw [List.getElem?_append_left (List.getElem?_eq_some_iff.mp hg).1]
            exact hg
          · refine ih _ _ (fun i g hg => ?_) x hx
            have z := hh (pgsS l k + i) g (by
              rw [List.getElem?_append_right (by rw [set_pre_len]; omega), set_pre_len, Nat.add_sub_cancel_left]
              exact hg)
            rw [show b + (pgsS l k + i) + 1 = b + pgsS l k + i + 1 by omega] at z
            exact z
      refine go s.ks (a + 1) ps fun i g hg => ?_
      have z := h (i + 1) g (by
        show (_ :: (setKids (setT l) s.ks (a + 1) ps).flatMap (pre l))[i + 1]? = some g
        rw [List.getElem?_cons_succ]
        exact hg)
      rw [show a + (i + 1) + 1 = a + 1 + i + 1 by omega] at z
      exact z
end K30

namespace K30
open PySem PySem.Spec PyProof.Rows L2 RZ HX TR RP EQT
/-! keys of a tree set down -/
def Up (ps : List (Int × Int)) : Prop := ps.Pairwise fun a b => a.1 < b.1
theorem frs_mem {ps : List (Int × Int)} (h : 0 < ps.length) : ∃ q ∈ ps, frs ps = q.1 ∧ ps[0]? = some q := by
  cases ps with
  | nil => cases h
  | cons q ps => exact ⟨q, List.mem_cons_self .., rfl, rfl⟩
theorem frs_le {ps : List (Int × Int)} (u : Up ps) : ∀ q ∈ ps, frs ps ≤ q.1 := by
  cases ps with
  | nil => intro q h; cases h
  | cons p ps =>
    intro q hq
    obtain ⟨h1, _⟩ := List.pairwise_cons.mp u
    rcases List.mem_cons.mp hq with rfl | hq
    · exact Int.le_refl _
    · exact Int.le_of_lt (h1 q hq)
theorem cut_lt {ps : List (Int × Int)} (u : Up ps) {n : Nat} {p q : Int × Int} (hp : p ∈ ps.take n) (hq : q ∈ ps.drop n) : p.1 < q.1 := by
  have u' : Up (ps.take n ++ ps.drop n) := by rw [List.take_append_drop]; exact u
  exact (List.pairwise_append.mp u').2.2 p hp q hq
section
variable {l : Nat}
theorem setKids_prs1 {ks : List (Sh l)} {a : Nat} {ps : List (Int × Int)} (e : ps.length = (ks.map (cntS l)).sum) : (setKids (setT l) ks a ps).flatMap (prs l) = ps := setKids_prs (fun k _ a ps e => set_prs e) e
def firsts (l : Nat) (L : List (Tr l)) : List Int := L.map fun t => frs (prs l t)
theorem firsts_mem : ∀ {ks : List (Sh l)} {a : Nat} {ps : List (Int × Int)}, (∀ k ∈ ks, 0 < cntS l k) → ps.length = (ks.map (cntS l)).sum → ∀ x ∈ firsts l (setKids (setT l) ks a ps), ∃ q ∈ ps, x = q.1
  | [], _, _, _, _, x, hx => by cases hx
  | k :: ks, a, ps, h, e, x, hx => by
    rw [List.map_cons, List.sum_cons] at e
    have e1 : (ps.take (cntS l k)).length = cntS l k := by rw [List.length_take]; omega
    rcases List.mem_cons.mp hx with rfl | hx
    · dsimp only
      rw [set_prs e1]
      obtain ⟨q, hq, z, _⟩ := frs_mem (ps := ps.take (cntS l k)) (by rw [e1]; exact h k (List.mem_cons_self ..))
      exact ⟨q, List.mem_of_mem_take hq, z⟩
    · obtain ⟨q, hq, z⟩ := firsts_mem (fun y hy => h y (List.mem_cons_of_mem _ hy)) (by rw [List.length_drop]; omega) x hx
      exact ⟨q, List.mem_of_mem_drop hq, z⟩
theorem firsts_up : ∀ {ks : List (Sh l)} {a : Nat} {ps : List (Int × Int)}, (∀ k ∈ ks, 0 < cntS l k) → ps.length = (ks.map (cntS l)).sum → Up ps → (firsts l (setKids (setT l) ks a ps)).Pairwise (· < ·)
  | [], _, _, _, _, _ => .nil
  | k :: ks, a, ps, h, e, u => by
    rw [List.map_cons, List.sum_cons] at e
    have e1 : (ps.take (cntS l k)).length = cntS l k := by rw [List.length_take]; omega
    have h' : ∀ y ∈ ks, 0 < cntS l y := fun y hy => h y (List.mem_cons_of_mem _ hy)
    have e2 : (ps.drop (cntS l k)).length = (ks.map (cntS l)).sum := by rw [List.length_drop]; omega
    refine List.pairwise_cons.mpr ⟨fun x hx => ?_, firsts_up h' e2 (u.sublist (List.drop_sublist ..))⟩
    dsimp only
    rw [set_prs e1]
    obtain ⟨q, hq, z, _⟩ := frs_mem (ps := ps.take (cntS l k)) (by rw [e1]; exact h k (List.mem_cons_self ..))
    obtain ⟨r, hr, rfl⟩ := firsts_mem h' e2 x hx
    rw [z]
    exact cut_lt u hq hr
theorem setKids_keyB {room : Nat} (r3 : 3 ≤ room) (ih : ∀ {k : Sh l} {a : Nat} {ps : List (Int × Int)} {lo hi : Int}, WfSh room l false k → ps.length = cntS l k → Up ps → (∀ q ∈ ps, lo ≤ q.1 ∧ q.1 < hi) → KeyB l (setT l k a ps) lo hi) {hi : Int} : ∀ {ks : List (Sh l)} {a : Nat} {ps : List (Int × Int)} {lo : Int}, ks ≠ [] → (∀ k ∈ ks, WfSh room l false k) → ps.length = (ks.map (cntS l)).sum → Up ps → (∀ q ∈ ps, lo ≤ q.1 ∧ q.1 < hi) → KBs (KeyB l) lo ((firsts l (setKids (setT l) ks a ps)).drop 1) (setKids (setT l) ks a ps) hi
  | [], _, _, _, h, _, _, _, _ => (h rfl).elim
  | [k], a, ps, lo, _, wf, e, u, rg => by
    simp only [List.map_cons, List.map_nil, List.sum_cons, List.sum_nil, Nat.add_zero] at e
    show KeyB l (setT l k a (ps.take (cntS l k))) lo hi
    rw [← e, List.take_length]
    exact ih (wf k (List.mem_cons_self ..)) e u rg
  | k :: k2 :: ks, a, ps, lo, _, wf, e, u, rg => by
    rw [List.map_cons, List.sum_cons] at e
    have e1 : (ps.take (cntS l k)).length = cntS l k := by rw [List.length_take]; omega
    have e2 : (ps.drop (cntS l k)).length = ((k2 :: ks).map (cntS l)).sum := by rw [List.length_drop]; omega
    have wf2 : ∀ x ∈ k2 :: ks, WfSh room l false x := fun x hx => wf x (List.mem_cons_of_mem _ hx)
    have c2 := cnt_pos r3 (wf k2 (List.mem_cons_of_mem _ (List.mem_cons_self ..)))
    have u2 : Up (ps.drop (cntS l k)) := u.sublist (List.drop_sublist ..)
    have e3 : ((ps.drop (cntS l k)).take (cntS l k2)).length = cntS l k2 := by
      rw [List.map_cons, List.sum_cons] at e2
      rw [List.length_take]
      omega
    have ef : frs (prs l (setT l k2 (a + pgsS l k) ((ps.drop (cntS l k)).take (cntS l k2)))) = frs (ps.drop (cntS l k)) := by
      rw [set_prs e3]
      unfold frs
      cases c : ps.drop (cntS l k) with
      | nil =>
        rw [c] at e3
        simp only [List.take_nil, List.length_nil] at e3
        omega
      | cons q r =>
        cases d : cntS l k2 with
        | zero => omega
        | succ n => rfl
    show KeyB l (setT l k a (ps.take (cntS l k))) lo (frs (prs l (setT l k2 (a + pgsS l k) ((ps.drop (cntS l k)).take (cntS l k2))))) ∧ KBs (KeyB l) (frs (prs l (setT l k2 (a + pgsS l k) ((ps.drop (cntS l k)).take (cntS l k2))))) ((firsts l (setKids (setT l) (k2 :: ks) (a + pgsS l k) (ps.drop (cntS l k)))).drop 1) (setKids (setT l) (k2 :: ks) (a + pgsS l k) (ps.drop (cntS l k))) hi
    rw [ef]
    obtain ⟨q, hq, z, _⟩ := frs_mem (ps := ps.drop (cntS l k)) (by rw [e2, List.map_cons, List.sum_cons]; omega)
    refine ⟨ih (wf k (List.mem_cons_self ..)) e1 (u.sublist (List.take_sublist ..)) fun p hp => ⟨(rg p (List.mem_of_mem_take hp)).1, by rw [z]; exact cut_lt u hp hq⟩, setKids_keyB r3 ih (by simp) wf2 e2 u2 fun p hp => ⟨frs_le u2 p hp, (rg p (List.mem_of_mem_drop hp)).2⟩⟩
end
theorem set_keyB {room : Nat} (r3 : 3 ≤ room) : ∀ {l : Nat} {top : Bool} {s : Sh l} {a : Nat} {ps : List (Int × Int)} {lo hi : Int}, WfSh room l top s → ps.length = cntS l s → Up ps → (∀ q ∈ ps, lo ≤ q.1 ∧ q.1 < hi) → KeyB l (setT l s a ps) lo hi
  | 0, _, _, _, _, _, _, _, _, _, rg => rg
  | l + 1, top, s, a, ps, lo, hi, w, e, u, rg => by
    have ne := (posS r3 w).1
    exact setKids_keyB r3 (fun wf e u rg => set_keyB r3 wf e u rg) ne w.2.2 e u rg
theorem set_keyOk {room : Nat} (r3 : 3 ≤ room) : ∀ {l : Nat} {top : Bool} {s : Sh l} {a : Nat} {ps : List (Int × Int)}, WfSh room l top s → ps.length = cntS l s → Up ps → (∀ q ∈ ps, 0 ≤ q.1 ∧ q.1 ≤ 1000000000) → KeyOk l (setT l s a ps)
  | 0, _, _, _, _, _, _, _, _ => trivial
  | l + 1, top, s, a, ps, w, e, u, rg => by
    have cp : ∀ k ∈ s.ks, 0 < cntS l k := fun k hk => cnt_pos r3 (w.2.2 k hk)
    have ne := List.length_pos_iff.mpr (posS r3 w).1
    refine ⟨(firsts_up cp e u).sublist (List.drop_sublist ..), fun k hk => ?_, ?_, ?_⟩
    · obtain ⟨q, hq, rfl⟩ := firsts_mem cp e k (List.mem_of_mem_drop hk)
      exact rg q hq
    · show ((firsts l (setKids (setT l) s.ks (a + 1) ps)).drop 1).length + 1 = (setKids (setT l) s.ks (a + 1) ps).length
      rw [List.length_drop]
      unfold firsts
      rw [List.length_map, setKids_len]
      omega
    · have go : ∀ (ks : List (Sh l)) (b : Nat) (qs : List (Int × Int)), (∀ k ∈ ks, WfSh room l false k) → qs.length = (ks.map (cntS l)).sum → Up qs → (∀ q ∈ qs, 0 ≤ q.1 ∧ q.1 ≤ 1000000000) → ∀ x ∈ setKids (setT l) ks b qs, KeyOk l x := by
        intro ks
        induction ks with
        | nil => intro b qs _ _ _ _ x hx; cases hx
        | cons k ks ih =>
          intro b qs wf e u rg x hx
          rw [List.map_cons, List.sum_cons] at e
          rcases List.mem_cons.mp hx with rfl | hx
          · exact set_keyOk r3 (wf k (List.mem_cons_self ..)) (by rw [List.length_take]; omega) (u.sublist (List.take_sublist ..)) fun q hq => rg q (List.mem_of_mem_take hq)
          · exact ih _ _ (fun y hy => wf y (List.mem_cons_of_mem _ hy)) (by rw [List.length_drop]; omega) (u.sublist (List.drop_sublist ..)) (fun q hq => rg q (List.mem_of_mem_drop hq)) x hx
      exact go s.ks (a + 1) ps w.2.2 e u rg
end K30

namespace K30
open PySem PySem.Spec PyProof.Rows L2 RZ HX TR RP EQT
/-! leaves linked -/
def lnk : Nat → List Pg → List (Int × Pg) × Int
  | _, [] => ([], 0)
  | a, .leaf ps _ :: gs => ((((a + 1 : Nat) : Int), .leaf ps (lnk (a + 1) gs).2) :: (lnk (a + 1) gs).1, ((a + 1 : Nat) : Int))
  | a, .node ks kd :: gs => ((((a + 1 : Nat) : Int), .node ks kd) :: (lnk (a + 1) gs).1, (lnk (a + 1) gs).2)
def lfN : Nat → List Pg → List Int
  | _, [] => []
  | a, .leaf _ _ :: gs => ((a + 1 : Nat) : Int) :: lfN (a + 1) gs
  | a, .node _ _ :: gs => lfN (a + 1) gs
theorem runN_cons {a n : Nat} : runN a (n + 1) = ((a + 1 : Nat) : Int) :: runN (a + 1) n := by
  rw [Nat.add_comm n 1, runN_add]
  rfl
theorem lnk_nums : ∀ {gs : List Pg} {a : Nat}, (lnk a gs).1.map (·.1) = runN a gs.length
  | [], _ => rfl
  | .leaf _ _ :: gs, a => by
    show ((a + 1 : Nat) : Int) :: (lnk (a + 1) gs).1.map (·.1) = _
    rw [lnk_nums, List.length_cons, runN_cons]
  | .node _ _ :: gs, a => by
    show ((a + 1 : Nat) : Int) :: (lnk (a + 1) gs).1.map (·.1) = _
    rw [lnk_nums, List.length_cons, runN_cons]
theorem lnk_at : ∀ {gs : List Pg} {a i : Nat} {g : Pg}, gs[i]? = some g → ∃ g', (((a + i + 1 : Nat) : Int), g') ∈ (lnk a gs).1 ∧ (match g with | .node _ _ => g' = g | .leaf qs _ => ∃ nx, g' = .leaf qs nx)
  | .leaf ps nx :: gs, a, 0, g, h => by
    cases h
    exact ⟨_, List.mem_cons_self .., _, rfl⟩
  | .node ks kd :: gs, a, 0, g, h => by
    cases h
    exact ⟨_, List.mem_cons_self .., rfl⟩
  | .leaf ps nx :: gs, a, i + 1, g, h => by
    rw [List.getElem?_cons_succ] at h
    obtain ⟨g', h1, h2⟩ := lnk_at (a := a + 1) h
    rw [show a + 1 + i + 1 = a + (i + 1) + 1 by omega] at h1
    exact ⟨g', List.mem_cons_of_mem _ h1, h2⟩
  | .node ks kd :: gs, a, i + 1, g, h => by
    rw [List.getElem?_cons_succ] at h
    obtain ⟨g', h1, h2⟩ := lnk_at (a := a + 1) h
    rw [show a + 1 + i + 1 = a + (i + 1) + 1 by omega] at h1
    exact ⟨g', List.mem_cons_of_mem _ h1, h2⟩
theorem lnk_right : ∀ {gs : List Pg} {a : Nat}, (lnk a gs).2 = ((lfN a gs)[0]?).getD 0
  | [], _ => rfl
  | .leaf _ _ :: _, _ => rfl
  | .node _ _ :: gs, a => lnk_right (gs := gs) (a := a + 1)
theorem lnk_next : ∀ {gs : List Pg} {a j : Nat} {n : Int}, (lfN a gs)[j]? = some n → ∃ ps, (n, Pg.leaf ps (((lfN a gs)[j + 1]?).getD 0)) ∈ (lnk a gs).1
  | .leaf ps nx :: gs, a, 0, n, h => by
    cases h
    refine ⟨ps, ?_⟩
    show (_, Pg.leaf ps ((((((a + 1 : Nat) : Int)) :: lfN (a + 1) gs)[0 + 1]?).getD 0)) ∈ _
    rw [List.getElem?_cons_succ, ← lnk_right]
    exact List.mem_cons_self ..
  | .leaf ps nx :: gs, a, j + 1, n, h => by
    have h' : (lfN (a + 1) gs)[j]? = some n := h
    obtain ⟨qs, z⟩ := lnk_next h'
    exact ⟨qs, List.mem_cons_of_mem _ z⟩
  | .node ks kd :: gs, a, j, n, h => by
    have h' : (lfN (a + 1) gs)[j]? = some n := h
    obtain ⟨qs, z⟩ := lnk_next h'
    exact ⟨qs, List.mem_cons_of_mem _ z⟩
theorem lfN_app : ∀ {xs ys : List Pg} {a : Nat}, lfN a (xs ++ ys) = lfN a xs ++ lfN (a + xs.length) ys
  | [], _, _ => rfl
  | .leaf _ _ :: xs, ys, a => by
    show ((a + 1 : Nat) : Int) :: lfN (a + 1) (xs ++ ys) = ((a + 1 : Nat) : Int) :: lfN (a + 1) xs ++ _
    rw [lfN_app, List.cons_append, List.length_cons, show a + 1 + xs.length = a + (xs.length + 1) by omega]
  | .node _ _ :: xs, ys, a => by
    show lfN (a + 1) (xs ++ ys) = lfN (a + 1) xs ++ _
    rw [lfN_app, List.length_cons, show a + 1 + xs.length = a + (xs.length + 1) by omega]
theorem set_lvs : ∀ {l : Nat} {s : Sh l} {a : Nat} {ps : List (Int × Int)}, lfN a (pre l (setT l s a ps)) = lvs l (setT l s a ps)
  | 0, _, _, _ => rfl
  | l + 1, s, a, ps => by
    have go : ∀ (ks : List (Sh l)) (b : Nat) (qs : List (Int × Int)), lfN b ((setKids (setT l) ks b qs).flatMap (pre l)) = (setKids (setT l) ks b qs).flatMap (lvs l) := by
      intro ks
      induction ks with
      | nil => intro b qs; rfl
      | cons k ks ih =>
        intro b qs
        show lfN b ((setT l k b _ :: setKids (setT l) ks _ _).flatMap (pre l)) = (setT l k b _ :: setKids (setT l) ks _ _).flatMap (lvs l)
        rw [List.flatMap_cons, List.flatMap_cons, lfN_app, set_lvs, set_pre_len, ih]
    exact go s.ks (a + 1) ps
theorem runN_nodup {a n : Nat} : (runN a n).Pairwise (· < ·) := by
  unfold runN
  rw [List.pairwise_map]
  exact List.pairwise_lt_range.imp fun h => by omega
/-- what tree_by gives is a tree -/
theorem set_tree {room l : Nat} {s : Sh l} {ps : List (Int × Int)} (r3 : 3 ≤ room) (r8 : room ≤ 8) (w : WfSh room l true s) (e : ps.length = cntS l s) (u : Up ps) (good : ∀ q ∈ ps, 0 ≤ q.1 ∧ q.1 ≤ 1000000000 ∧ 0 ≤ q.2 ∧ q.2 ≤ 1000000000) (few : pgsS l s ≤ 1000) : TR.Tree room l (setT l s 0 ps) (lnk 0 (pre l (setT l s 0 ps))).1 := by
  have eN : (lnk 0 (pre l (setT l s 0 ps))).1.map (·.1) = nums l (setT l s 0 ps) := by rw [lnk_nums, set_pre_len, set_nums]
  have up : (runN 0 (pgsS l s)).Pairwise (· < ·) := runN_nodup
  have nd : (runN 0 (pgsS l s)).Nodup := List.nodup_iff_pairwise_ne.mpr (up.imp fun h z => by omega)
  have ndS : ((lnk 0 (pre l (setT l s 0 ps))).1.map (·.1)).Nodup := by rw [eN, set_nums]; exact nd
  refine ⟨r3, r8, by rw [set_shp e]; exact w, by rw [set_nums]; exact nd, fun k hk => ?_, by rw [eN], ?_, ?_, ?_, ?_, ?_, by rw [set_prs e]; exact u, by rw [set_prs e]; exact good, ?_⟩
  · rw [set_nums] at hk
    obtain ⟨i, hi, rfl⟩ := List.mem_map.mp hk
    have := List.mem_range.mp hi
    omega
  · have z : ((lnk 0 (pre l (setT l s 0 ps))).1.map (·.1)).Pairwise (· < ·) := by rw [eN, set_nums]; exact up
    exact List.pairwise_map.mp z
  · refine pre_at fun i g hg => ?_
    obtain ⟨g', h1, h2⟩ := lnk_at (a := 0) hg
    exact ⟨g', mem_lkp ndS h1, h2⟩
  · intro j n hj hn
    rw [← set_lvs] at hn ⊢
    obtain ⟨qs, z⟩ := lnk_next hn
    exact ⟨qs, mem_lkp ndS z⟩
  · exact set_keyB r3 w e u fun q hq => by have := good q hq; omega
  · exact set_keyOk r3 w e u fun q hq => by have := good q hq; omega
  · rw [set_nums]
    unfold runN
    rw [List.length_map, List.length_range]
    exact few
end K30

namespace K30
open PySem PySem.Spec PyProof.Rows L2 RZ HX TR RP EQT
theorem cut_two {xs : List V} {a n : Nat} (h : a + n ≤ xs.length) : cutV xs (some (a : Int)) (some ((a + n : Nat) : Int)) = (xs.drop a).take n := by
  unfold cutV
  rw [HT.sIx_nat, HT.sIx_nat, Nat.min_eq_left (by omega : a ≤ xs.length), Nat.min_eq_left h, Nat.add_sub_cancel_left]
theorem not_whole {xs : List V} {a n : Nat} (h : a + n ≤ xs.length) (c : 0 < a ∨ a + n < xs.length) : ¬ (HT.sIx xs.length 0 (some (a : Int)) = 0 ∧ HT.sIx xs.length xs.length (some ((a + n : Nat) : Int)) = xs.length) := by
  rw [HT.sIx_nat, HT.sIx_nat, Nat.min_eq_left (by omega), Nat.min_eq_left h]
  omega
theorem sum_proper {α : Type} (f : α → Nat) {ks : List α} {i : Nat} {k : α} (h : ks[i]? = some k) (two : 2 ≤ ks.length) (pos : ∀ x ∈ ks, 0 < f x) : ((ks.take i).map f).sum + f k ≤ (ks.map f).sum ∧ (0 < ((ks.take i).map f).sum ∨ ((ks.take i).map f).sum + f k < (ks.map f).sum) := by
  have a := sum_part1 f h
  refine ⟨a, ?_⟩
  cases i with
  | zero =>
    refine .inr ?_
    obtain ⟨k1, hk1⟩ : ∃ k, ks[1]? = some k := ⟨_, List.getElem?_eq_getElem (by omega)⟩
    have b := sum_part1 f hk1
    rw [sum_more f h] at b
    have := pos k1 (List.mem_of_getElem? hk1)
    simp only [List.take_zero, List.map_nil, List.sum_nil] at b ⊢
    omega
  | succ i =>
    refine .inl ?_
    obtain ⟨k0, hk0⟩ : ∃ k, ks[0]? = some k := ⟨_, List.getElem?_eq_getElem (by omega)⟩
    have b := sum_part f (ks.take (i + 1)) 1
    rw [List.take_take, Nat.min_eq_left (by omega), sum_more f hk0] at b
    have := pos k0 (List.mem_of_getElem? hk0)
    omega
theorem setKids_take {l : Nat} {f : Sh l → Nat → List (Int × Int) → Tr l} : ∀ {ks : List (Sh l)} {i a : Nat} {ps : List (Int × Int)}, (setKids f ks a ps).take i = setKids f (ks.take i) a ps
  | _, 0, _, _ => rfl
  | [], _ + 1, _, _ => rfl
  | k :: ks, i + 1, a, ps => by
    show (f k a _ :: setKids f ks _ _).take (i + 1) = f k a _ :: setKids f (ks.take i) _ _
    rw [List.take_succ_cons, setKids_take]
theorem setKids_plen {l : Nat} : ∀ {ks : List (Sh l)} {a : Nat} {ps : List (Int × Int)}, ((setKids (setT l) ks a ps).flatMap (pre l)).length = (ks.map (pgsS l)).sum
  | [], _, _ => rfl
  | k :: ks, a, ps => by
    show ((setT l k a _ :: setKids (setT l) ks _ _).flatMap (pre l)).length = _
    rw [List.flatMap_cons, List.length_append, set_pre_len, setKids_plen, List.map_cons, List.sum_cons]
section
variable {P : Program} {w : World} {K : PySem.W.Frag} {mg : Str → Option Value} {base : Heap}
def sp_set_down (N : Nat) : Sp := fun vs H Q _ => ∃ (v : V) (room : Nat) (top : Bool) (l : Nat) (s : Sh l) (pr L : Addr) (ps : List (Int × Int)) (xs : List V), vs = [v, .ref pr, .ref L] ∧ l < N ∧ l ≤ 8 ∧ 3 ≤ room ∧ room ≤ 8 ∧ WfSh room l top s ∧ ShAt H l v s ∧ PrT H pr ps ∧ ps.length = cntS l s ∧ H L = some (.lst xs) ∧ xs.length + pgsS l s ≤ 2000 ∧
  ∀ (H' : Hp) (ys : List V), But L H H' → H' L = some (.lst (xs ++ ys)) → Paired (PgAt H') ys (pre l (setT l s xs.length ps)) → Q .non H'
theorem ok_set_down (T : TX K mg) : ∀ N : Nat, FnOk P w K mg base CX0 (N + 12) (He.ga K "set_down") T.fd_set_down ["shape", "pairs", "pages"] (sp_set_down N) := by
  intro N
  induction N with
  | zero =>
    refine T.F_set_down.ok sc_set_down (fun vs H Q E h => ?_) (fun cdv A outer st H vs Q E hr h => ?_)
    · obtain ⟨v, room, top, l, s, pr, L, ps, xs, rfl, _⟩ := h
      rfl
    · obtain ⟨v, room, top, l, s, pr, L, ps, xs, rfl, hl, _⟩ := h
      omega
  | succ N ih =>
    have G_set_down := ih
    have b_set_down := b_set_down T
    have G_pairs_in_shape : FnOk P w K mg base CX0 11 (He.ga K "pairs_in_shape") T.fd_pairs_in_shape ["shape"] (sp_pairs_in_shape 9) := ok_pairs_in_shape T 9
    have b_pairs_in_shape := b_pairs_in_shape T
    have G_is_whole : FnOk P w K mg base CX0 1 (He.ga K "is_whole") T.fd_is_whole ["thing"] sp_is_whole_sh := ok_is_whole_sh T
    have b_is_whole := b_is_whole T
    refine T.F_set_down.ok sc_set_down (fun vs H Q E h => ?_) (fun cdv A outer st H vs Q E hr h => ?_)
    · obtain ⟨v, room, top, l, s, pr, L, ps, xs, rfl, _⟩ := h
      rfl
    · obtain ⟨v, room, top, l, s, pr, L, ps, xs, rfl, hl, l8, r3, r8, wf, hs, hpr, e, hL, few, kq⟩ := h
      refine ⟨_, PSs.nox (pss_cons (ps_set (i := 3) sc_set_down.nd rfl (Or.inl rfl) (pe_callB call_len_seq rfl T.n_len PySem.boot_len (pa_cons (pv 2) pa_nil)))
 (pss_cons (ps_expr (pe_bm PySem.F.plainAttrs_list PySem.F.slot_list_append PySem.F.type_list_append mt_append (pv 2) (pa_cons (pe_tup (pa_cons pe_str (pa_cons (pv 1) (pa_cons pe_int pa_nil)))) pa_nil)))
 (pss_cons (ps_if (pt_val (pe_call G_is_whole (hr.mono (by first | decide | omega)) rfl T.g_is_whole T.F_is_whole.kp b_is_whole .nil pass0 (pa_cons (pv 0) pa_nil)))
 (pss_one ps_retN)
 pss_nil)
 (pss_cons (ps_set (i := 4) sc_set_down.nd rfl (Or.inl rfl) (pe_lst pa_nil))
 (pss_cons (ps_set (i := 5) sc_set_down.nd rfl (Or.inl rfl) (pe_lst pa_nil))
 (pss_cons (ps_set (i := 6) sc_set_down.nd rfl (Or.inl rfl) pe_int)
 (pss_cons (ps_for PassesOwn.never rfl (pi_tup (pv 0)) (pg_name (i := 7) sc_set_down.nd rfl (Or.inl rfl))
 (pss_cons (ps_set (i := 8) sc_set_down.nd rfl (Or.inl rfl) (pe_op op_add (pv 6) (pe_call G_pairs_in_shape (hr.mono (by first | decide | omega)) rfl T.g_pairs_in_shape T.F_pairs_in_shape.kp b_pairs_in_shape .nil pass0 (pa_cons (pv 7) pa_nil))))
 (pss_cons (ps_expr (pe_bm PySem.F.plainAttrs_list PySem.F.slot_list_append PySem.F.type_list_append mt_append (pv 4) (pa_cons (pe_ix ix_tup (pe_ix ix_tup (pv 1) (pv 6) (fun _ _ => rfl)) pe_int (fun _ _ => rfl)) pa_nil)))
 (pss_cons (ps_expr (pe_bm PySem.F.plainAttrs_list PySem.F.slot_list_append PySem.F.type_list_append mt_append (pv 5) (pa_cons (pe_op op_add (pe_callB call_len_seq rfl T.n_len PySem.boot_len (pa_cons (pv 2) pa_nil)) pe_int) pa_nil)))
 (pss_cons (ps_expr (pe_call G_set_down (hr.mono (by first | decide | omega)) rfl T.g_set_down T.F_set_down.kp b_set_down .nil pass0 (pa_cons (pv 7) (pa_cons (pe_slice RU.sl_tupF (pv 1) (po_some (pv 6)) (po_some (pv 8))) (pa_cons (pv 2) pa_nil)))))
 (pss_one (ps_set (i := 6) sc_set_down.nd rfl (Or.inl rfl) (pv 8))))))))
 (pss_one (ps_asg (pe_tup (pa_cons pe_str (pa_cons (pe_callTy call_tuple_of rfl T.n_tuple (by decide +kernel) (pa_cons (pe_slice sl_list (pv 4) (po_some pe_int) po_none) pa_nil)) (pa_cons (pe_callTy RU.call_tupF rfl T.n_tuple (by decide +kernel) (pa_cons (pv 5) pa_nil)) pa_nil)))) (pg_sub (pv 2) (pv 3) set_list)))))))))), ?_⟩
      have pg1 : 1 ≤ pgsS l s := by cases l <;> simp only [pgsS] <;> omega
      refine ⟨_, rfl, L, _, rfl, .inl (SqL.of hL), ?_⟩
      refine ⟨_, rfl, .inl ⟨rfl, _, SqL.of hL⟩, _, rfl, by show 3 ≤ sizeLine; decide, fun t ht => ?_⟩
      have s1 : Same H (upd H t (.tup [.str "leaf", .ref pr, .int 0])) := same_new ht
      have ht1 : upd H t (.tup [.str "leaf", .ref pr, .int 0]) t = some (.tup [.str "leaf", .ref pr, .int 0]) := upd_same
      generalize upd H t (.tup [.str "leaf", .ref pr, .int 0]) = H1 at s1 ht1
      have hL1 := s1 _ _ hL
      refine ⟨L, _, _, rfl, rfl, hL1, Nat.lt_of_le_of_lt (by omega : _ ≤ 2000) (by decide), ?_⟩
      have b2 : But L H (upd H1 L (.lst (xs ++ [.ref t]))) := (But.of s1).upd
      have hL2 : upd H1 L (.lst (xs ++ [.ref t])) L = some (.lst (xs ++ [.ref t])) := upd_same
      have k12 : Keep H1 (upd H1 L (.lst (xs ++ [.ref t]))) := (Keep.refl _).upd fun u e => by rw [hL1] at e; cases e; rfl
      generalize upd H1 L (.lst (xs ++ [.ref t])) = H2 at b2 hL2 k12
      have k2 := (Keep.of s1).trans k12
      have hs2 := ShAt.keep k2 hs
      have hpr2 := hpr.keep k2
      refine ⟨_, rfl, l, v, s, rfl, hs2, _, rfl, ?_⟩
      cases l with
      | zero =>
        refine iteT ?_
        refine kq H2 [.ref t] b2 hL2 (.cons ⟨t, pr, rfl, k12 _ _ ht1, ?_⟩ .nil)
        exact hpr2
      | succ l =>
        obtain ⟨a, zs, rfl, ha, hx⟩ := hs2
        obtain ⟨w1, w2, w3⟩ := wf
        refine iteF ⟨Nat.zero_le _, fun F nF => ⟨Nat.zero_le _, fun G nG => ?_⟩⟩
        have hF3 : upd H2 F (.lst []) F = some (.lst []) := upd_same
        have s3 : Same H2 (upd H2 F (.lst [])) := same_new nF
        generalize upd H2 F (.lst []) = H3 at hF3 s3 nG
        have hG4 : upd H3 G (.lst []) G = some (.lst []) := upd_same
        have s4 : Same H3 (upd H3 G (.lst [])) := same_new nG
        generalize upd H3 G (.lst []) = H4 at hG4 s4
        have s24 := s3.trans s4
        have hF4 := s4 _ _ hF3
        have hL4 := s24 _ _ hL2
        have nLF : L ≠ F := ne_of_none hL2 nF
        have nLG : L ≠ G := ne_of_none (s3 _ _ hL2) nG
        have nFG : F ≠ G := ne_of_none hF3 nG
        have ha4 := s24 _ _ ha
        have hpr4 := hpr2.keep (Keep.of s24)
        have kO : ∀ {H' : Hp}, (∀ b o, b ≠ L → b ≠ F → b ≠ G → H4 b = some o → H' b = some o) → Keep H4 H' := fun st => ⟨fun b u tu e => st b u (fun z => by rw [z, hL4] at e; cases e; cases tu) (fun z => by rw [z, hF4] at e; cases e; cases tu) (fun z => by rw [z, hG4] at e; cases e; cases tu) e⟩
        have hx4 : Paired (ShAt H4 l) zs s.ks := paired_imp (fun _ _ r => ShAt.keep (Keep.of s24) r) hx
        generalize hK : setKids (setT l) s.ks (xs.length + 1) ps = kids
        refine ⟨_, rfl, a, rfl, ⟨_, SqT.of ha4⟩, ?_⟩
        refine for_tup (xs := zs) (fun i σ H' => ∃ v7 v8 ys, σ = [some (.ref a), some (.ref pr), some (.ref L), some (.int (xs.length : Nat)), some (.ref F), some (.ref G), some (.int (((s.ks.take i).map (cntS l)).sum : Nat)), v7, v8] ∧ (∀ b o, b ≠ L → b ≠ F → b ≠ G → H4 b = some o → H' b = some o) ∧ H' L = some (.lst ((xs ++ [.ref t]) ++ ys)) ∧ H' F = some (.lst (((firsts l kids).take i).map V.int)) ∧ H' G = some (.lst (((kids.map (num l)).take i).map V.int)) ∧ Paired (PgAt H') ys ((kids.take i).flatMap (pre l))) ⟨none, none, [], rfl, fun _ _ _ _ _ e => e, by rw [List.append_nil]; exact hL4, hF4, hG4, .nil⟩ (fun i σ H' _ z => by obtain ⟨_, _, _, _, f, _⟩ := z; exact SqT.of (kO f _ _ ha4)) ?_ ?_
        · rintro i x σ H5 hxi ⟨v7, v8, ys, rfl, st5, hL5, hF5, hG5, hy5⟩
          obtain ⟨k, hk, hkx⟩ := pget1 hx4 hxi
          have mk := List.mem_of_getElem? hk
          have ck := cnt_pos r3 (w3 k mk)
          have e' : ps.length = (s.ks.map (cntS l)).sum := e
          obtain ⟨sp1, sp2⟩ := sum_proper (cntS l) hk (by
            have : 2 ≤ loS room (l + 1) top := by
              cases top with
              | true => exact Nat.le_refl 2
              | false => show 2 ≤ (room + 1) / 2; omega
            omega) fun y hy => cnt_pos r3 (w3 y hy)
          have smore := sum_more (cntS l) hk
          obtain ⟨pt, hpt⟩ : ∃ p, ps[((s.ks.take i).map (cntS l)).sum]? = some p := ⟨_, List.getElem?_eq_getElem (by omega)⟩
          have hkat := setKids_at (f := setT l) (a := xs.length + 1) (ps := ps) hk
          have ylen := hy5.length
          rw [← hK, setKids_take, setKids_plen] at ylen
          rw [hK] at hkat
          have pk := sum_part1 (pgsS l) hk
          have few' : xs.length + (1 + (s.ks.map (pgsS l)).sum) ≤ 2000 := few
          have ilt := (List.getElem?_eq_some_iff.mp hk).1
          refine ⟨_, rfl, _, rfl, x, l, k, rfl, by omega, ShAt.keep (kO st5) hkx, by omega, posS r3 (w3 k mk), fun H6 s6 => ⟨_, _, rfl, rfl, ?_⟩⟩
          have hF6 := s6 _ _ hF5
          have hG6 := s6 _ _ hG5
          have hL6 := s6 _ _ hL5
          have k46 := (kO st5).trans (Keep.of s6)
          obtain ⟨qs, hq6, hpx6⟩ := hpr4.keep k46
          obtain ⟨x0, hx0, tp, rfl, htp⟩ := pget2 hpx6 hpt
          refine ⟨_, rfl, .inl ⟨rfl, _, SqL.of hF6⟩, _, rfl, _, rfl, pr, _, _, _, rfl, rfl, hq6.sq, HX.at_of hx0 rfl, tp, _, 0, _, rfl, rfl, SqT.of htp, rfl, F, _, _, rfl, rfl, hF6, ?_, ?_⟩
          · rw [List.length_map, List.length_take]
            exact Nat.lt_of_le_of_lt (by omega : _ ≤ 2000) (by decide)
          have k67 : Keep H6 (upd H6 F (.lst (((firsts l kids).take i).map V.int ++ [V.int pt.1]))) := (Keep.refl _).upd fun u e => by rw [hF6] at e; cases e; rfl
          have hF7 : upd H6 F (.lst (((firsts l kids).take i).map V.int ++ [V.int pt.1])) F = some (.lst (((firsts l kids).take i).map V.int ++ [V.int pt.1])) := upd_same
          have o7 : ∀ b o, b ≠ F → H6 b = some o → upd H6 F (.lst (((firsts l kids).take i).map V.int ++ [V.int pt.1])) b = some o := fun b o n e => by rw [upd_ne n]; exact e
          generalize upd H6 F (.lst (((firsts l kids).take i).map V.int ++ [V.int pt.1])) = H7 at k67 hF7 o7
          have hG7 := o7 _ _ nFG.symm hG6
          have hL7 := o7 _ _ nLF hL6
          refine ⟨_, rfl, .inl ⟨rfl, _, SqL.of hG7⟩, _, rfl, L, _, rfl, .inl (SqL.of hL7), _, _, rfl, rfl, G, _, _, rfl, rfl, hG7, ?_, ?_⟩
          · rw [List.length_map, List.length_take]
            exact Nat.lt_of_le_of_lt (by have := sum_part (pgsS l) s.ks i; omega : _ ≤ 2000) (by decide)
          have k78 : Keep H7 (upd H7 G (.lst (((kids.map (num l)).take i).map V.int ++ [V.int ((((xs ++ [V.ref t]) ++ ys).length : Int) + 1)]))) := (Keep.refl _).upd fun u e => by rw [hG7] at e; cases e; rfl
          have hG8 : upd H7 G (.lst (((kids.map (num l)).take i).map V.int ++ [V.int ((((xs ++ [V.ref t]) ++ ys).length : Int) + 1)])) G = some (.lst (((kids.map (num l)).take i).map V.int ++ [V.int ((((xs ++ [V.ref t]) ++ ys).length : Int) + 1)])) := upd_same
          have o8 : ∀ b o, b ≠ G → H7 b = some o → upd H7 G (.lst (((kids.map (num l)).take i).map V.int ++ [V.int ((((xs ++ [V.ref t]) ++ ys).length : Int) + 1)])) b = some o := fun b o n e => by rw [upd_ne n]; exact e
          generalize upd H7 G (.lst (((kids.map (num l)).take i).map V.int ++ [V.int ((((xs ++ [V.ref t]) ++ ys).length : Int) + 1)])) = H8 at k78 hG8 o8
          have hL8 := o8 _ _ nLG hL7
          have hF8 := o8 _ _ nFG hF7
          have k68 := k67.trans k78
          have hq8 := hq6.keep k68
          have qlen : qs.length = ps.length := hpx6.length
          refine ⟨_, rfl, _, rfl, _, rfl, ((((s.ks.take i).map (cntS l)).sum : Nat) : Int), rfl, _, rfl, ((((s.ks.take i).map (cntS l)).sum + cntS l k : Nat) : Int), congrArg V.int (by omega), pr, qs, rfl, hq8.sq, not_whole (by omega) (by omega), fun pp o hpp ho => ?_⟩
          rw [cut_two (by omega)]
          have s9 : Same H8 (upd H8 pp (.frz o (.tup ((qs.drop ((s.ks.take i).map (cntS l)).sum).take (cntS l k))))) := same_new hpp
          have hpp9 : FzT (upd H8 pp (.frz o (.tup ((qs.drop ((s.ks.take i).map (cntS l)).sum).take (cntS l k))))) pp ((qs.drop ((s.ks.take i).map (cntS l)).sum).take (cntS l k)) := ⟨o, upd_same, ho⟩
          generalize upd H8 pp (.frz o (.tup ((qs.drop ((s.ks.take i).map (cntS l)).sum).take (cntS l k)))) = H9 at s9 hpp9
          have k49 := (k46.trans k68).trans (Keep.of s9)
          have hpx9 : Paired (PrAt H9) ((qs.drop ((s.ks.take i).map (cntS l)).sum).take (cntS l k)) ((ps.drop ((s.ks.take i).map (cntS l)).sum).take (cntS l k)) := paired_take _ (paired_drop _ (paired_imp (fun _ _ r => PrAt.keep (k68.trans (Keep.of s9)) r) hpx6))
          have lL : ((xs ++ [V.ref t]) ++ ys).length = xs.length + 1 + ((s.ks.take i).map (pgsS l)).sum := by
            rw [List.length_append, List.length_append, List.length_singleton, ylen]
          refine ⟨_, rfl, x, room, false, l, k, pp, L, _, _, rfl, by omega, by omega, r3, r8, w3 k mk, ShAt.keep k49 hkx, ⟨_, hpp9, hpx9⟩, by rw [List.length_take, List.length_drop]; omega, s9 _ _ hL8, by rw [lL]; omega, fun HA ys9 bA hLA hyA => ?_⟩
          rw [lL] at hyA
          have kA : Keep H9 HA := Keep.but bA fun u e => by rw [s9 _ _ hL8] at e; cases e; rfl
          refine ⟨_, rfl, _, _, ys ++ ys9, congrArg (fun z => [some (V.ref a), some (V.ref pr), some (V.ref L), some (V.int (xs.length : Nat)), some (V.ref F), some (V.ref G), some (V.int z), some x, some (V.int z)]) ?_, ?_, ?_, ?_, ?_, ?_⟩
          · rw [smore]
            omega
          · intro b o n1 n2 n3 eb
            exact bA _ _ n1 (s9 _ _ (o8 _ _ n3 (o7 _ _ n2 (s6 _ _ (st5 b o n1 n2 n3 eb)))))
          · rw [← List.append_assoc]
            exact hLA
          · have hf : (firsts l kids)[i]? = some pt.1 := by
              unfold firsts
              rw [List.getElem?_map, hkat]
              show some (frs (prs l (setT l k _ _))) = _
              rw [set_prs (by rw [List.length_take, List.length_drop]; omega)]
              unfold frs
              rw [List.headD_eq_head?_getD, List.head?_eq_getElem?, List.getElem?_map, List.getElem?_take_of_lt ck, List.getElem?_drop, Nat.add_zero, hpt]
              rfl
            rw [bA _ _ nLF.symm (s9 _ _ hF8), take_more hf, List.map_append]
            rfl
          · have hn : (kids.map (num l))[i]? = some ((((xs ++ [V.ref t]) ++ ys).length : Int) + 1) := by
              rw [List.getElem?_map, hkat]
              show some (num l (setT l k _ _)) = _
              rw [set_num, lL]
              rfl
            rw [bA _ _ nLG.symm (s9 _ _ hG8), take_more hn, List.map_append]
            rfl
          · rw [take_more hkat, List.flatMap_append, List.flatMap_cons, List.flatMap_nil, List.append_nil]
            exact paired_app (paired_imp (fun _ _ r => PgAt.keep ((((Keep.of s6).trans k68).trans (Keep.of s9)).trans kA) r) hy5) hyA
        · rintro σ H5 ⟨v7, v8, ys, rfl, st5, hL5, hF5, hG5, hy5⟩
          rw [hx4.length, List.take_of_length_le (by unfold firsts; rw [List.length_map, ← hK, setKids_len]; exact Nat.le_refl _)] at hF5
          rw [hx4.length, List.take_of_length_le (by rw [List.length_map, ← hK, setKids_len]; exact Nat.le_refl _)] at hG5
          rw [hx4.length, List.take_of_length_le (by rw [← hK, setKids_len]; exact Nat.le_refl _)] at hy5
          have ec : cutV ((firsts l kids).map V.int) (some 1) none = ((firsts l kids).drop 1).map V.int := by
            rw [List.map_drop]
            exact cut_from' (n := 1)
          refine ⟨_, rfl, 1, rfl, F, _, rfl, SqL.of hF5, fun p hp => ?_⟩
          rw [ec]
          have s6 : Same H5 (upd H5 p (.lst (((firsts l kids).drop 1).map V.int))) := same_new hp
          have hp6 : upd H5 p (.lst (((firsts l kids).drop 1).map V.int)) p = some (.lst (((firsts l kids).drop 1).map V.int)) := upd_same
          generalize upd H5 p (.lst (((firsts l kids).drop 1).map V.int)) = H6 at s6 hp6
          refine ⟨p, _, rfl, .inl ⟨SqL.of hp6, fun q1 hq1 => ?_⟩⟩
          have s7 : Same H6 (upd H6 q1 (.tup (((firsts l kids).drop 1).map V.int))) := same_new hq1
          have hq17 : upd H6 q1 (.tup (((firsts l kids).drop 1).map V.int)) q1 = some (.tup (((firsts l kids).drop 1).map V.int)) := upd_same
          generalize upd H6 q1 (.tup (((firsts l kids).drop 1).map V.int)) = H7 at s7 hq17
          refine ⟨_, rfl, G, _, rfl, SqL.of ((s6.trans s7) _ _ hG5), fun q2 o2 hq2 ho2 => ?_⟩
          have s8 : Same H7 (upd H7 q2 (.frz o2 (.tup ((kids.map (num l)).map V.int)))) := same_new hq2
          have hq28 : FzT (upd H7 q2 (.frz o2 (.tup ((kids.map (num l)).map V.int)))) q2 ((kids.map (num l)).map V.int) := ⟨o2, upd_same, ho2⟩
          generalize upd H7 q2 (.frz o2 (.tup ((kids.map (num l)).map V.int))) = H8 at s8 hq28
          refine ⟨by show 3 ≤ sizeLine; decide, fun tn htn => ?_⟩
          have s9 : Same H8 (upd H8 tn (.tup [.str "node", .ref q1, .ref q2])) := same_new htn
          have htn9 : upd H8 tn (.tup [.str "node", .ref q1, .ref q2]) tn = some (.tup [.str "node", .ref q1, .ref q2]) := upd_same
          generalize upd H8 tn (.tup [.str "node", .ref q1, .ref q2]) = H9 at s9 htn9
          have s59 := (((s6.trans s7).trans s8).trans s9)
          have hL9 := s59 _ _ hL5
          have eix : ixN ((xs ++ [V.ref t]) ++ ys).length ((xs.length : Nat) : Int) = some xs.length := by
            unfold ixN
            rw [List.length_append, List.length_append, List.length_singleton, if_pos (by omega), if_pos (by omega)]
            rfl
          refine ⟨_, rfl, _, rfl, L, _, _, _, rfl, rfl, hL9, eix, ?_⟩
          have eset : ((xs ++ [V.ref t]) ++ ys).set xs.length (.ref tn) = xs ++ (.ref tn :: ys) := by
            rw [List.append_assoc, List.set_append_right _ _ (Nat.le_refl _), Nat.sub_self]
            rfl
          rw [eset]
          have k10 : Keep H9 (upd H9 L (.lst (xs ++ (.ref tn :: ys)))) := (Keep.refl _).upd fun u e => by rw [hL9] at e; cases e; rfl
          refine kq _ (.ref tn :: ys) ?_ upd_same ?_
          · intro b o nb e
            rw [upd_ne nb]
            exact s59 _ _ (st5 b o nb (fun z => by rw [z] at e; exact nomatch (b2 _ _ nLF.symm e).symm.trans nF) (fun z => by
              rw [z] at e
              exact nomatch (s3 _ _ (b2 _ _ nLG.symm e)).symm.trans nG) (s24 _ _ (b2 b o nb e)))
          · have epre : pre (l + 1) (setT (l + 1) s xs.length ps) = .node ((firsts l kids).drop 1) (kids.map (num l)) :: kids.flatMap (pre l) := by
              rw [← hK]
              rfl
            rw [epre]
            exact .cons ⟨tn, q1, q2, rfl, k10 _ _ htn9, k10 _ _ ((s8.trans s9) _ _ hq17), (FzT.same s9 hq28).keep k10⟩ (paired_imp (fun _ _ r => PgAt.keep ((Keep.of s59).trans k10) r) hy5)
end
end K30

namespace K30
open PySem PySem.Spec PyProof.Rows L2 RZ HX TR RP
/-! ### pages as data -/
theorem eqv_prs : ∀ ps qs : List (Int × Int), (PyData.eqvAll (ps.map prD) (qs.map prD) = true ↔ ps = qs)
  | [], [] => by simp [PyData.eqvAll]
  | [], _ :: _ => by simp [PyData.eqvAll]
  | _ :: _, [] => by simp [PyData.eqvAll]
  | (a, b) :: ps, (c, d) :: qs => by
    have ih := eqv_prs ps qs
    simp only [List.map_cons, PyData.eqvAll, prD, PyData.eqv, Bool.and_eq_true, beq_iff_eq, ih, List.cons.injEq, Prod.mk.injEq, and_true]
theorem eqv_pg : ∀ {g g' : Pg}, PyData.eqv (pgD g) (pgD g') = true ↔ g = g'
  | .leaf ps nx, .leaf qs mx => by
    simp only [pgD, PyData.eqv, PyData.eqvAll, Bool.and_eq_true, beq_iff_eq, eqv_prs, Pg.leaf.injEq, and_true, true_and]
  | .leaf ps nx, .node ks kids => by
    have e : (Str.ofString "leaf" == Str.ofString "node") = false := by decide +kernel
    simp [pgD, PyData.eqv, PyData.eqvAll, e]
  | .node ks kids, .leaf ps nx => by
    have e : (Str.ofString "node" == Str.ofString "leaf") = false := by decide +kernel
    simp [pgD, PyData.eqv, PyData.eqvAll, e]
  | .node ks kids, .node ks' kids' => by
    simp only [pgD, PyData.eqv, PyData.eqvAll, Bool.and_eq_true, beq_iff_eq, eqv_intsA, decide_eq_true_eq, Pg.node.injEq, and_true, true_and]
theorem eqv_pgB {g g' : Pg} (h : g ≠ g') : PyData.eqv (pgD g) (pgD g') = false := by
  cases c : PyData.eqv (pgD g) (pgD g') with
  | false => rfl
  | true => exact (h (eqv_pg.mp c)).elim
theorem lay_prs : ∀ ps : List (Int × Int), PyData.canLayAll0 (ps.map prD) = true
  | [] => by simp only [List.map_nil, PyData.canLayAll0]
  | p :: ps => by simp only [List.map_cons, PyData.canLayAll0, prD, PyData.canLay0, lay_prs ps, Bool.and_self]
theorem deep_prs : ∀ ps : List (Int × Int), PyData.depthAll (ps.map prD) ≤ 1
  | [] => by simp only [List.map_nil, PyData.depthAll]; omega
  | p :: ps => by
    have := deep_prs ps
    simp only [List.map_cons, PyData.depthAll, prD, PyData.depth]
    omega
theorem lay_pg : ∀ g : Pg, PyData.canLay0 (pgD g) = true
  | .leaf ps nx => by
    have e : PyData.canLay0 (.str (Str.ofString "leaf")) = true := by decide +kernel
    have e' := e
    simp only [pgD, PyData.canLay0, PyData.canLayAll0, lay_prs, Bool.and_true, Bool.and_self] at e' ⊢
    exact e'
  | .node ks kids => by
    have e : PyData.canLay0 (.str (Str.ofString "node")) = true := by decide +kernel
    have e' := e
    simp only [pgD, PyData.canLay0, PyData.canLayAll0, lay_ints, Bool.and_true, Bool.and_self] at e' ⊢
    exact e'
theorem deep_pg : ∀ g : Pg, PyData.depth (pgD g) ≤ 3
  | .leaf ps nx => by
    have := deep_prs ps
    simp only [pgD, PyData.depth, PyData.depthAll]
    omega
  | .node ks kids => by
    simp only [pgD, PyData.depth, PyData.depthAll, deep_ints]
    omega
theorem shaped_pg (g : Pg) : SeqAt.shaped (pgD g) = true := by
  unfold SeqAt.shaped
  rw [lay_pg g, decide_eq_true (Nat.le_trans (deep_pg g) (by decide))]
  rfl
theorem lay_nums : ∀ S : List (Int × Pg), PyData.canLayAll0 (S.map numD) = true
  | [] => by simp only [List.map_nil, PyData.canLayAll0]
  | q :: S => by simp only [List.map_cons, PyData.canLayAll0, numD, PyData.canLay0, lay_pg, lay_nums S, Bool.and_self]
theorem deep_nums : ∀ S : List (Int × Pg), PyData.depthAll (S.map numD) ≤ 4
  | [] => by simp only [List.map_nil, PyData.depthAll]; omega
  | q :: S => by
    have := deep_nums S
    have := deep_pg q.2
    simp only [List.map_cons, PyData.depthAll, numD, PyData.depth]
    omega
theorem can_tree {room root : Int} {S : List (Int × Pg)} : PyData.canLay0 (treeD room root S) = true := by
  simp only [treeD, PyData.canLay0, PyData.canLayAll0, lay_nums, Bool.and_self]
theorem shaped_tree {room root : Int} {S : List (Int × Pg)} : SeqAt.shaped (treeD room root S) = true := by
  unfold SeqAt.shaped
  have := deep_nums S
  rw [can_tree, decide_eq_true (by simp only [treeD, PyData.depth, PyData.depthAll]; omega : PyData.depth (treeD room root S) ≤ 64)]
  rfl
end K30

namespace K30
open PySem PySem.Spec PyProof.Rows L2 RZ HX TR
/-- data that _law_same looks at, of that depth -/
def SameD : Nat → PyData → Prop
  | _ + 1, .none => True
  | _ + 1, .bool _ => True
  | _ + 1, .int _ => True
  | _ + 1, .str _ => True
  | N + 1, .tuple ds => ds.length ≤ 100000 ∧ ∀ d ∈ ds, SameD N d
  | _, _ => False
theorem SameD.tup {N : Nat} {ds : List PyData} (hl : ds.length ≤ 100000) (h : ∀ d ∈ ds, SameD N d) : SameD (N + 1) (.tuple ds) := ⟨hl, h⟩
theorem SameD.int {N : Nat} {i : Int} : SameD (N + 1) (.int i) := True.intro
theorem SameD.str {N : Nat} {i : Str} : SameD (N + 1) (.str i) := True.intro
theorem SameD.none {N : Nat} : SameD (N + 1) .none := True.intro
theorem tyT {K : PySem.W.Frag} {H : Hp} {a : Addr} {xs : List V} (h : SqT K H a xs) : TyX K H (.ref a) (.type "tuple") := by
  rcases h with (h | ⟨o, h⟩) | ⟨o, its, n, h1, h2, _⟩
  · exact .base (.tup h)
  · exact .fTuple h
  · exact .kTuple h1 h2
theorem dpAll_len {K : PySem.W.Frag} {H : Hp} : ∀ {xs : List V} {ds : List PyData}, DpAll K H xs ds → xs.length = ds.length
  | _, _, .nil => rfl
  | _, _, .cons _ h => congrArg Nat.succ (dpAll_len h)
theorem dpAll_get {K : PySem.W.Frag} {H : Hp} : ∀ {xs : List V} {ds : List PyData}, DpAll K H xs ds → ∀ {i : Nat} {x : V}, xs[i]? = some x → ∃ d, ds[i]? = some d ∧ Dp K H x d
  | _, _, .nil, i, x, h => by simp at h
  | _, _, .cons r _, 0, x, h => by
    cases h
    exact ⟨_, rfl, r⟩
  | _, _, .cons _ rs, i + 1, x, h => dpAll_get rs (i := i) h
theorem sqT_same {K : PySem.W.Frag} {H H' : Hp} {a : Addr} {xs : List V} (s : Same H H') (h : SqT K H a xs) : SqT K H' a xs := by
  rcases h with (h | ⟨o, h⟩) | h
  · exact .inl (.inl (s _ _ h))
  · exact .inl (.inr ⟨o, s _ _ h⟩)
  · exact .inr h
theorem sqL_same {K : PySem.W.Frag} {H H' : Hp} {a : Addr} {xs : List V} (s : Same H H') (h : SqL K H a xs) : SqL K H' a xs := by
  rcases h with (h | ⟨o, h⟩) | h
  · exact .inl (.inl (s _ _ h))
  · exact .inl (.inr ⟨o, s _ _ h⟩)
  · exact .inr h
mutual
theorem dp_same {K : PySem.W.Frag} {H H' : Hp} (s : Same H H') : ∀ {d : PyData} {v : V}, Dp K H v d → Dp K H' v d
  | _, _, .non => .non
  | _, _, .bl b => .bl b
  | _, _, .int i => .int i
  | _, _, .str x => .str x
  | _, _, .lst h r => .lst (sqL_same s h) (dpAll_same s r)
  | _, _, .tup h r => .tup (sqT_same s h) (dpAll_same s r)
theorem dpAll_same {K : PySem.W.Frag} {H H' : Hp} (s : Same H H') : ∀ {ds : List PyData} {vs : List V}, DpAll K H vs ds → DpAll K H' vs ds
  | _, _, .nil => .nil
  | _, _, .cons h r => .cons (dp_same s h) (dpAll_same s r)
end
section
variable {P : Program} {w : World} {K : PySem.W.Frag} {mg : Str → Option Value} {base : Heap}
def sp_law_same (K : PySem.W.Frag) (N : Nat) : Sp := fun vs H Q _ => ∃ (x y : V) (d : PyData), vs = [x, y] ∧ SameD N d ∧ Dp K H x d ∧ Dp K H y d ∧ ∀ H', Same H H' → Q (.bl true) H'
theorem ok_law_same (T : TX K mg) : ∀ N : Nat, FnOk P w K mg base CX0 (N + 1) (He.ga K "_law_same") T.fd_law_same ["found", "due"] (sp_law_same K N) := by
  intro N
  induction N with
  | zero =>
    refine T.F_law_same.ok sc_law_same (fun vs H Q E h => ?_) (fun cdv A outer st H vs Q E hr h => ?_)
    · obtain ⟨x, y, d, rfl, _⟩ := h
      rfl
    · obtain ⟨x, y, d, rfl, h, _⟩ := h
      exact h.elim
  | succ N ih =>
    have G_law_same := ih
    have b_law_same := b_law_same T
    refine T.F_law_same.ok sc_law_same (fun vs H Q E h => ?_) (fun cdv A outer st H vs Q E hr h => ?_)
    · obtain ⟨x, y, d, rfl, _⟩ := h
      rfl
    · obtain ⟨x, y, d, rfl, hd, hx, hy, kq⟩ := h
      refine ⟨_, PSs.nox (pss_cons (ps_if (pt_val (pe_callB call_isi rfl T.n_isinstance (by decide +kernel) (pa_cons (pv 1) (pa_cons (pe_ty "tuple" T.n_tuple (by decide +kernel)) pa_nil))))
 (pss_cons (ps_if (PW.pt (pw_or (pt_not (pt_val (pe_callB call_isi rfl T.n_isinstance (by decide +kernel) (pa_cons (pv 0) (pa_cons (pe_ty "tuple" T.n_tuple (by decide +kernel)) pa_nil))))) (pw_or1 (pt_cmpR op_ne (pe_callB call_len_seq rfl T.n_len PySem.boot_len (pa_cons (pv 0) pa_nil)) (pe_callB call_len_seq rfl T.n_len PySem.boot_len (pa_cons (pv 1) pa_nil)) (nomark _)))))
 (pss_one (ps_ret pe_bl))
 pss_nil)
 (pss_one (ps_ret (pe_callB (cr_all rfl) rfl T.n_all (by decide +kernel) (pa_cons (pe_lc (own := [("one", 2), ("other", 3)]) (g := gTup K 2 (gCons (gName 2) (gCons (gName 3) gNil))) (tt := tYes) rfl sc_law_same.nd (pi_zipA rfl T.n_zip (pa_cons (pv 0) (pa_cons (pv 1) pa_nil))) (blkOk_by (own := [("one", 2), ("other", 3)]) (N := ["found", "due", "one", "other"]) (sc := defScope s_law_same) (by decide +kernel)) (fun _ _ _ _ _ => (pg_tup rfl (pgs_cons (pg_name (i := 2) sc_law_same.nd rfl (Or.inl rfl)) (pgs_cons (pg_name (i := 3) sc_law_same.nd rfl (Or.inl rfl)) pgs_nil)))) (fun _ _ _ _ _ => pts_nil) (fun _ _ _ _ _ => (pe_call G_law_same (hr.mono (by first | decide | omega)) rfl T.g_law_same T.F_law_same.kp b_law_same .nil pass0 (pa_cons (pv 2) (pa_cons (pv 3) pa_nil))))) pa_nil)))))
 pss_nil)
 (pss_cons (ps_if (pt_cmpR op_isN (pv 1) pe_non (nomark _))
 (pss_one (ps_ret (pe_cmpR op_isN (pv 0) pe_non (nomark _))))
 pss_nil)
 (pss_cons (ps_if (pt_val (pe_callB call_isiT rfl T.n_isinstance (by decide +kernel) (pa_cons (pv 1) (pa_cons (pe_tup (pa_cons (pe_ty "str" T.n_str (by decide +kernel)) (pa_cons (pe_ty "bool" T.n_bool (by decide +kernel)) pa_nil))) pa_nil))))
 (pss_one (ps_ret (pe_and (pe_callB call_isiT rfl T.n_isinstance (by decide +kernel) (pa_cons (pv 0) (pa_cons (pe_tup (pa_cons (pe_ty "str" T.n_str (by decide +kernel)) (pa_cons (pe_ty "bool" T.n_bool (by decide +kernel)) pa_nil))) pa_nil))) (pe_and (pe_cmpR op_eq (pe_callB call_isi rfl T.n_isinstance (by decide +kernel) (pa_cons (pv 0) (pa_cons (pe_ty "bool" T.n_bool (by decide +kernel)) pa_nil))) (pe_callB call_isi rfl T.n_isinstance (by decide +kernel) (pa_cons (pv 1) (pa_cons (pe_ty "bool" T.n_bool (by decide +kernel)) pa_nil))) (nomark _)) (pe_one (pe_cmpR op_eq (pv 0) (pv 1) (nomark _)))))))
 pss_nil)
 (pss_one (ps_ret (pe_and (pe_callB call_isi rfl T.n_isinstance (by decide +kernel) (pa_cons (pv 0) (pa_cons (pe_ty "int" T.n_int (by decide +kernel)) pa_nil))) (pe_and (pe_not (pe_callB call_isi rfl T.n_isinstance (by decide +kernel) (pa_cons (pv 0) (pa_cons (pe_ty "bool" T.n_bool (by decide +kernel)) pa_nil)))) (pe_one (pe_cmpR op_eq (pv 0) (pv 1) (nomark _)))))))))), ?_⟩
      cases d with
      | list ds => exact hd.elim
      | dict ds => exact hd.elim
      | none =>
        cases hx
        cases hy
        refine ⟨_, rfl, _, _, .type "NoneType", .type "tuple", false, rfl, .ty "tuple", .base .non, kit_ty (by decide +kernel), false, rfl, iteF ?_⟩
        refine ⟨_, rfl, rfl, _, rfl, iteT ?_⟩
        exact ⟨_, rfl, rfl, kq _ (Same.refl _)⟩
      | bool b =>
        cases hx
        cases hy
        refine ⟨_, rfl, _, _, .type "bool", .type "tuple", false, rfl, .ty "tuple", .base (.bl b), kit_ty (by decide +kernel), false, rfl, iteF ?_⟩
        refine ⟨_, rfl, rfl, _, rfl, iteF ?_⟩
        refine ⟨_, rfl, by show 2 ≤ sizeLine; decide, fun q hq => ?_⟩
        refine ⟨_, q, _, .type "bool", [.type "str", .type "bool"], true, rfl, upd_same, .cons (.ty "str") (.cons (.ty "bool") .nil), .base (.bl b),
          kitAny_cons (b := false) (r := true) (kit_ty (by decide +kernel)) (fun _ => kitAny_cons (b := true) (r := true) (kit_ty (by decide +kernel)) (fun h => by cases h) (fun _ => rfl)) (fun h => by cases h), true, rfl, iteT ?_⟩
        refine ⟨_, rfl, by show 2 ≤ sizeLine; decide, fun q2 hq2 => ?_⟩
        refine ⟨_, q2, _, .type "bool", [.type "str", .type "bool"], true, rfl, upd_same, .cons (.ty "str") (.cons (.ty "bool") .nil), .base (.bl b),
          kitAny_cons (b := false) (r := true) (kit_ty (by decide +kernel)) (fun _ => kitAny_cons (b := true) (r := true) (kit_ty (by decide +kernel)) (fun h => by cases h) (fun _ => rfl)) (fun h => by cases h), true, rfl, iteT ?_⟩
        refine ⟨_, rfl, _, _, .type "bool", .type "bool", true, rfl, .ty "bool", .base (.bl b), kit_ty (by decide +kernel), ?_⟩
        refine ⟨_, rfl, _, _, .type "bool", .type "bool", true, rfl, .ty "bool", .base (.bl b), kit_ty (by decide +kernel), rfl, _, rfl, ?_⟩
        refine (congrArg (fun b => (if b = true then _ else _)) (decide_eq_true (rfl : V.bl true = V.bl true))).mpr (iteT ?_)
        refine ⟨_, rfl, _, rfl, rfl, ?_⟩
        rw [decide_eq_true rfl]
        exact kq _ (same_upd (same_new hq) (Same.free (same_new hq) hq2))
      | str b =>
        cases hx
        cases hy
        refine ⟨_, rfl, _, _, .type "str", .type "tuple", false, rfl, .ty "tuple", .base (.str b), kit_ty (by decide +kernel), false, rfl, iteF ?_⟩
        refine ⟨_, rfl, rfl, _, rfl, iteF ?_⟩
        refine ⟨_, rfl, by show 2 ≤ sizeLine; decide, fun q hq => ?_⟩
        refine ⟨_, q, _, .type "str", [.type "str", .type "bool"], true, rfl, upd_same, .cons (.ty "str") (.cons (.ty "bool") .nil), .base (.str b),
          kitAny_cons (b := true) (r := true) (kit_ty (by decide +kernel)) (fun h => by cases h) (fun _ => rfl), true, rfl, iteT ?_⟩
        refine ⟨_, rfl, by show 2 ≤ sizeLine; decide, fun q2 hq2 => ?_⟩
        refine ⟨_, q2, _, .type "str", [.type "str", .type "bool"], true, rfl, upd_same, .cons (.ty "str") (.cons (.ty "bool") .nil), .base (.str b),
          kitAny_cons (b := true) (r := true) (kit_ty (by decide +kernel)) (fun h => by cases h) (fun _ => rfl), true, rfl, iteT ?_⟩
        refine ⟨_, rfl, _, _, .type "str", .type "bool", false, rfl, .ty "bool", .base (.str b), kit_ty (by decide +kernel), ?_⟩
        refine ⟨_, rfl, _, _, .type "str", .type "bool", false, rfl, .ty "bool", .base (.str b), kit_ty (by decide +kernel), rfl, _, rfl, ?_⟩
        refine (congrArg (fun b => (if b = true then _ else _)) (decide_eq_true (rfl : V.bl false = V.bl false))).mpr (iteT ?_)
        refine ⟨_, rfl, _, rfl, rfl, ?_⟩
        rw [decide_eq_true rfl]
        exact kq _ (same_upd (same_new hq) (Same.free (same_new hq) hq2))
      | int i =>
        cases hx
        cases hy
        refine ⟨_, rfl, _, _, .type "int", .type "tuple", false, rfl, .ty "tuple", .base (.int _), kit_ty (by decide +kernel), false, rfl, iteF ?_⟩
        refine ⟨_, rfl, rfl, _, rfl, iteF ?_⟩
        refine ⟨_, rfl, by show 2 ≤ sizeLine; decide, fun q hq => ?_⟩
        refine ⟨_, q, _, .type "int", [.type "str", .type "bool"], false, rfl, upd_same, .cons (.ty "str") (.cons (.ty "bool") .nil), .base (.int _),
          kitAny_cons (b := false) (r := false) (kit_ty (by decide +kernel)) (fun _ => kitAny_cons (b := false) (r := false) (kit_ty (by decide +kernel)) (fun _ => kitAny_nil) (fun h => by cases h)) (fun h => by cases h), false, rfl, iteF ?_⟩
        refine ⟨_, rfl, _, _, .type "int", .type "int", true, rfl, .ty "int", .base (.int _), kit_ty (by decide +kernel), true, rfl, iteT ?_⟩
        refine ⟨_, rfl, _, _, .type "int", .type "bool", false, rfl, .ty "bool", .base (.int _), kit_ty (by decide +kernel), false, rfl, true, rfl, iteT ?_⟩
        refine ⟨_, rfl, _, rfl, rfl, ?_⟩
        rw [decide_eq_true rfl]
        exact kq _ (same_new hq)
      | tuple ds =>
        obtain ⟨hl, hds⟩ := hd
        cases hx with | @tup a xs _ ha hxs =>
        cases hy with | @tup b ys _ hb hys =>
        have lx := dpAll_len hxs
        have ly := dpAll_len hys
        refine ⟨_, rfl, _, _, .type "tuple", .type "tuple", true, rfl, .ty "tuple", tyT hb, kit_ty (by decide +kernel), true, rfl, iteT ?_⟩
        refine ⟨_, rfl, _, _, .type "tuple", .type "tuple", true, rfl, .ty "tuple", tyT ha, kit_ty (by decide +kernel), true, rfl, iteF ?_⟩
        refine ⟨_, rfl, a, _, rfl, .inr ha, _, rfl, b, _, rfl, .inr hb, rfl, _, rfl, ?_⟩
        have e1 : (!decide (V.int (xs.length : Int) = V.int (ys.length : Int))) = false := by rw [lx, ly, decide_eq_true rfl]; rfl
        refine (congrArg (fun b => (if b = true then _ else _)) e1).mpr (iteF ?_)
        refine ⟨_, rfl, _, rfl, a, b, _, _, rfl, .inr ⟨ha, hb, fun D hD => ?_⟩⟩
        refine lc_it (RU.walk_zipT (n := ds.length) (by omega)) (fun i H' => Same H H' ∧ H' D = some (.lst ((List.replicate i true).map V.bl))) ⟨same_new hD, upd_same⟩ (fun i H' _ z => ⟨sqT_same z.1 ha, sqT_same z.1 hb⟩) ?_ ?_
        · rintro i x H3 H4 hi ⟨s3, hD3⟩ ⟨t, x1, x2, rfl, ht, rfl, e1, e2⟩
          obtain ⟨d1, g1, p1⟩ := dpAll_get hxs e1
          obtain ⟨d2, g2, p2⟩ := dpAll_get hys e2
          rw [g1] at g2
          obtain rfl := Option.some.inj g2
          have s4 := s3.trans (same_new (o := .tup [x1, x2]) ht)
          refine ⟨t, _, rfl, SqT.of upd_same, rfl, _, _, rfl, _, _, rfl, rfl, rfl, ?_⟩
          dsimp only [tYes]
          rw [if_pos rfl]
          refine ⟨_, rfl, _, rfl, x1, x2, d1, rfl, hds _ (List.mem_of_getElem? g1), dp_same s4 p1, dp_same s4 p2, fun H5 s5 => ⟨_, s5 _ _ (same_new ht _ _ hD3), ?_, same_upd (s4.trans s5) hD, ?_⟩⟩
          · rw [List.length_map, List.length_replicate]
            exact Nat.lt_of_le_of_lt (by omega : i ≤ 100000) (by decide)
          · rw [upd_same, rep_snoc]
        · rintro H3 ⟨s3, hD3⟩
          refine ⟨D, _, rfl, SqL.of hD3, ?_⟩
          rw [rep_true]
          exact kq H3 s3
end
end K30

namespace K30
open PySem PySem.Spec PyProof.Rows L2 RZ HX TR RP
theorem shaped_prs (ps : List (Int × Int)) : SeqAt.shaped (prsD ps) = true := by
  have := deep_prs ps
  unfold SeqAt.shaped prsD
  simp only [PyData.canLay0, lay_prs ps, PyData.depth, Bool.true_and]
  exact decide_eq_true (by omega)
theorem eqv_prsD {ps qs : List (Int × Int)} : PyData.eqv (prsD ps) (prsD qs) = decide (ps = qs) := by
  unfold prsD
  simp only [PyData.eqv]
  by_cases c : ps = qs
  · rw [decide_eq_true c, (eqv_prs ps qs).mpr c]
  · rw [decide_eq_false c]
    cases d : PyData.eqvAll (ps.map prD) (qs.map prD) with
    | false => rfl
    | true => exact (c ((eqv_prs ps qs).mp d)).elim
/-- a row of pairs, however it is held -/
def PrS (K : PySem.W.Frag) (H : Hp) (a : Addr) (ps : List (Int × Int)) : Prop := ∃ xs : List V, SqT K H a xs ∧ Paired (PrAt H) xs ps
theorem PrS.dp {K : PySem.W.Frag} {H : Hp} {a : Addr} {ps : List (Int × Int)} (h : PrS K H a ps) : Dp K H (.ref a) (prsD ps) := by
  obtain ⟨xs, ha, hx⟩ := h
  exact .tup ha (dpAll_of (fun _ _ r => pr_dp r) hx)
theorem PrT.s {K : PySem.W.Frag} {H : Hp} {a : Addr} {ps : List (Int × Int)} (h : PrT H a ps) : PrS K H a ps := by
  obtain ⟨xs, ha, hx⟩ := h
  exact ⟨xs, ha.sq, hx⟩
theorem PrT.same {H H' : Hp} (k : Same H H') {a : Addr} {ps : List (Int × Int)} (h : PrT H a ps) : PrT H' a ps := by
  obtain ⟨xs, ha, hx⟩ := h
  exact ⟨xs, ha.same k, paired_imp (fun _ _ r => PrAt.keep (Keep.of k) r) hx⟩
theorem PrT.kp {H H' : Hp} (k : Keep H H') {a : Addr} {ps : List (Int × Int)} (h : PrT H a ps) : PrT H' a ps := by
  obtain ⟨xs, ha, hx⟩ := h
  exact ⟨xs, ha.keep k, paired_imp (fun _ _ r => PrAt.keep k r) hx⟩
theorem PrS.same {K : PySem.W.Frag} {H H' : Hp} (k : Same H H') {a : Addr} {ps : List (Int × Int)} (h : PrS K H a ps) : PrS K H' a ps := by
  obtain ⟨xs, ha, hx⟩ := h
  exact ⟨xs, sqT_same k ha, paired_imp (fun _ _ r => PrAt.keep (Keep.of k) r) hx⟩
theorem prs_nice {ps : List (Int × Int)} (h : ∀ q ∈ ps, GoodPr q) : Nice (prsD ps) (63 * ps.length) 2 := nice_tup (n := 62) (fun d hd => by
  obtain ⟨q, hq, rfl⟩ := List.mem_map.mp hd
  exact pr_nice (h q hq)) (by rw [List.length_map]; omega)
theorem prss_nice : ∀ {pss : List (List (Int × Int))}, (∀ ps ∈ pss, ∀ q ∈ ps, GoodPr q) → NiceAll (pss.map prsD) (63 * pss.flatten.length + pss.length) 2
  | [], _ => NiceAll.nil
  | ps :: pss, h => by
    have a := prs_nice (h ps (List.mem_cons_self ..))
    have b := prss_nice (pss := pss) fun x hx => h x (List.mem_cons_of_mem _ hx)
    have c := NiceAll.cons a b (Nat.le_refl 2)
    refine ⟨c.sh, c.nd, c.ls, Nat.le_trans c.wt ?_, c.dp⟩
    rw [List.flatten_cons, List.length_append, List.length_cons]
    omega
end K30

namespace K30
open PySem PySem.Spec PyProof.Rows L2 RZ HX TR RP
theorem prs_same2 {N : Nat} {ps : List (Int × Int)} (h : ps.length ≤ 100000) : SameD (N + 3) (.tuple (ps.map prD)) := by
  refine SameD.tup (by rw [List.length_map]; exact h) fun d hd => ?_
  obtain ⟨q, _, rfl⟩ := List.mem_map.mp hd
  refine SameD.tup (by show 2 ≤ 100000; omega) fun d hd => ?_
  rcases List.mem_cons.mp hd with rfl | hd
  · exact True.intro
  · obtain rfl := List.mem_singleton.mp hd
    exact True.intro
theorem ints_same {N : Nat} {ks : List Int} (h : ks.length ≤ 100000) : SameD (N + 2) (.tuple (ks.map PyData.int)) := by
  refine SameD.tup (by rw [List.length_map]; exact h) fun d hd => ?_
  obtain ⟨q, _, rfl⟩ := List.mem_map.mp hd
  exact True.intro
def PgFew : Pg → Prop
  | .leaf ps _ => ps.length ≤ 100000
  | .node ks kids => ks.length ≤ 100000 ∧ kids.length ≤ 100000
theorem pg_same {N : Nat} : ∀ {g : Pg}, PgFew g → SameD (N + 4) (pgD g)
  | .leaf ps nx, h => SameD.tup (by show 3 ≤ 100000; omega) fun d hd => by
    rcases List.mem_cons.mp hd with rfl | hd
    · exact True.intro
    rcases List.mem_cons.mp hd with rfl | hd
    · exact prs_same2 h
    obtain rfl := List.mem_singleton.mp hd
    exact True.intro
  | .node ks kids, h => SameD.tup (by show 3 ≤ 100000; omega) fun d hd => by
    rcases List.mem_cons.mp hd with rfl | hd
    · exact True.intro
    rcases List.mem_cons.mp hd with rfl | hd
    · exact ints_same (N := N + 1) h.1
    obtain rfl := List.mem_singleton.mp hd
    exact ints_same (N := N + 1) h.2
theorem treeD_same {N : Nat} {room root : Int} {S : List (Int × Pg)} (hl : S.length ≤ 100000) (h : ∀ q ∈ S, PgFew q.2) : SameD (N + 7) (treeD room root S) := SameD.tup (by show 3 ≤ 100000; omega) fun d hd => by
  rcases List.mem_cons.mp hd with rfl | hd
  · exact True.intro
  rcases List.mem_cons.mp hd with rfl | hd
  · exact True.intro
  obtain rfl := List.mem_singleton.mp hd
  refine SameD.tup (by rw [List.length_map]; exact hl) fun d hd => ?_
  obtain ⟨q, hq, rfl⟩ := List.mem_map.mp hd
  refine SameD.tup (by show 2 ≤ 100000; omega) fun d hd => ?_
  rcases List.mem_cons.mp hd with rfl | hd
  · exact True.intro
  obtain rfl := List.mem_singleton.mp hd
  exact pg_same (h q hq)
theorem pgFew_of : ∀ {g : Pg}, PgOk g → PgFew g
  | .leaf _ _, h => Nat.le_trans h.2.2.2.2 (by decide)
  | .node _ _, h => ⟨by have := h.2.2.2.1; have := h.2.2.2.2; omega, Nat.le_trans h.2.2.2.2 (by decide)⟩
theorem tree_same {N : Nat} {room l : Nat} {t : Tr l} {S : List (Int × Pg)} {root : Int} (h : TR.Tree room l t S) : SameD (N + 7) (treeD (room : Int) root S) := treeD_same (by have := tree_few h; omega) fun q hq => pgFew_of (Tree.pgOk h q hq).2.2
end K30

namespace K30
open PySem PySem.Spec PyProof.Rows L2 RZ HX TR RP EQT
theorem drop_at {α : Type} : ∀ {xs : List α} {i : Nat} {x : α}, xs[i]? = some x → xs.drop i = x :: xs.drop (i + 1)
  | _ :: _, 0, _, h => by
    cases h
    rfl
  | _ :: xs, i + 1, _, h => drop_at (xs := xs) h
theorem paired_rev {α β : Type} {R : α → β → Prop} : ∀ {xs : List α} {ys : List β}, Paired R xs ys → Paired R xs.reverse ys.reverse
  | _, _, .nil => .nil
  | _, _, .cons r rs => by
    rw [List.reverse_cons, List.reverse_cons]
    exact paired_snoc r (paired_rev rs)
theorem rise_uniq : ∀ {S S2 : List Int}, S.Perm S2 → S.Pairwise (· < ·) → S2.Pairwise (· < ·) → S = S2
  | [], S2, p, _, _ => (List.nil_perm.mp p).symm
  | a :: S, [], p, _, _ => absurd (List.perm_nil.mp p) (by simp)
  | a :: S, b :: S2, p, h, h2 => by
    have e : a = b := by
      have m1 : a ∈ b :: S2 := p.mem_iff.mp (List.mem_cons_self ..)
      have m2 : b ∈ a :: S := p.mem_iff.mpr (List.mem_cons_self ..)
      rcases List.mem_cons.mp m1 with e | m1
      · exact e
      · rcases List.mem_cons.mp m2 with e | m2
        · exact e.symm
        · have z1 := (List.pairwise_cons.mp h2).1 a m1
          have z2 := (List.pairwise_cons.mp h).1 b m2
          omega
    subst e
    rw [rise_uniq ((List.perm_cons a).mp p) (List.pairwise_cons.mp h).2 (List.pairwise_cons.mp h2).2]
/-- where the pages of a tree lie is told by the tree, but for the leaves' nexts -/
theorem laid_pg {S S2 : List (Int × Pg)} : ∀ {l : Nat} {t : Tr l}, Laid S l t → Laid S2 l t → ∀ k ∈ nums l t, lkp S k = lkp S2 k ∨ (k ∈ lvs l t ∧ ∃ ps nx nx', lkp S k = some (.leaf ps nx) ∧ lkp S2 k = some (.leaf ps nx'))
  | 0, t, ⟨nx, a⟩, ⟨nx', b⟩, k, hk => by
    obtain rfl := List.mem_singleton.mp hk
    exact .inr ⟨List.mem_singleton.mpr rfl, _, _, _, a, b⟩
  | l + 1, t, ⟨a, as⟩, ⟨b, bs⟩, k, hk => by
    rcases List.mem_cons.mp hk with rfl | hk
    · exact .inl (a.trans b.symm)
    · obtain ⟨c, hc, hk⟩ := List.mem_flatMap.mp hk
      rcases laid_pg (as c hc) (bs c hc) k hk with z | ⟨m, z⟩
      · exact .inl z
      · exact .inr ⟨List.mem_flatMap.mpr ⟨c, hc, m⟩, z⟩
theorem keys_lkp : ∀ {S S2 : List (Int × Pg)}, S.map (·.1) = S2.map (·.1) → (S.map (·.1)).Nodup → (∀ k ∈ S.map (·.1), lkp S k = lkp S2 k) → S = S2
  | [], [], _, _, _ => rfl
  | [], _ :: _, e, _, _ => by simp at e
  | _ :: _, [], e, _, _ => by simp at e
  | (k, g) :: S, (k2, g2) :: S2, e, nd, h => by
    rw [List.map_cons, List.map_cons] at e
    injection e with e1 e2
    dsimp only at e1
    subst e1
    rw [List.map_cons] at nd
    obtain ⟨n1, n2⟩ := List.nodup_cons.mp nd
    have z := h k (List.mem_cons_self ..)
    rw [lkp_cons, lkp_cons, if_pos rfl, if_pos rfl] at z
    cases z
    rw [keys_lkp e2 n2 fun j hj => ?_]
    have y := h j (List.mem_cons_of_mem _ hj)
    rw [lkp_cons, lkp_cons, if_neg (fun (c : k = j) => n1 (c ▸ hj)), if_neg (fun (c : k = j) => n1 (c ▸ hj))] at y
    exact y
theorem tree_one {room l : Nat} {t : Tr l} {S S2 : List (Int × Pg)} (h : TR.Tree room l t S) (h2 : TR.Tree room l t S2) : S = S2 := by
  have ek : S.map (·.1) = S2.map (·.1) := rise_uniq (h.perm.trans h2.perm.symm) (List.pairwise_map.mpr h.sorted) (List.pairwise_map.mpr h2.sorted)
  refine keys_lkp ek (h.perm.nodup_iff.mpr h.nodup) fun k hk => ?_
  rcases laid_pg h.laid h2.laid k (h.perm.mem_iff.mp hk) with z | ⟨m, ps, nx, nx', e1, e2⟩
  · exact z
  · obtain ⟨j, hj⟩ := List.getElem?_of_mem m
    have lt := (List.getElem?_eq_some_iff.mp hj).1
    obtain ⟨q1, z1⟩ := h.next j k lt hj
    obtain ⟨q2, z2⟩ := h2.next j k lt hj
    rw [e1] at z1
    rw [e2] at z2
    rw [e1, e2]
    cases z1
    cases z2
    rfl
/-- a shape has few pages beside its pairs -/
theorem pgs_cnt {room : Nat} (r3 : 3 ≤ room) : ∀ {l : Nat} {s : Sh l}, WfSh room l false s → pgsS l s + 1 ≤ cntS l s
  | 0, s, h => by
    have h1 : (room + 1) / 2 ≤ s.n := h.1
    show 1 + 1 ≤ s.n
    omega
  | l + 1, s, ⟨h1, _, h3⟩ => by
    have go : ∀ ks : List (Sh l), (∀ k ∈ ks, WfSh room l false k) → (ks.map (pgsS l)).sum + ks.length ≤ (ks.map (cntS l)).sum := by
      intro ks
      induction ks with
      | nil => intro _; exact Nat.le_refl _
      | cons k ks ih =>
        intro hk
        have a := pgs_cnt r3 (hk k (List.mem_cons_self ..))
        have b := ih fun x hx => hk x (List.mem_cons_of_mem _ hx)
        rw [List.map_cons, List.map_cons, List.sum_cons, List.sum_cons, List.length_cons]
        omega
    have z := go s.ks h3
    have h1' : (room + 1) / 2 ≤ s.ks.length := h1
    show 1 + (s.ks.map (pgsS l)).sum + 1 ≤ (s.ks.map (cntS l)).sum
    omega
theorem pgs_cnt1 {room l : Nat} {s : Sh l} (r3 : 3 ≤ room) (h : WfSh room l true s) : pgsS l s ≤ cntS l s + 1 := by
  cases l with
  | zero =>
    show 1 ≤ s.n + 1
    omega
  | succ l =>
    obtain ⟨h1, _, h3⟩ := h
    have go : ∀ ks : List (Sh l), (∀ k ∈ ks, WfSh room l false k) → (ks.map (pgsS l)).sum ≤ (ks.map (cntS l)).sum := by
      intro ks
      induction ks with
      | nil => intro _; exact Nat.le_refl _
      | cons k ks ih =>
        intro hk
        have a := pgs_cnt r3 (hk k (List.mem_cons_self ..))
        have b := ih fun x hx => hk x (List.mem_cons_of_mem _ hx)
        rw [List.map_cons, List.map_cons, List.sum_cons, List.sum_cons]
        omega
    have z := go s.ks h3
    show 1 + (s.ks.map (pgsS l)).sum ≤ (s.ks.map (cntS l)).sum + 1
    omega
section
variable {P : Program} {w : World} {K : PySem.W.Frag} {mg : Str → Option Value} {base : Heap}
def sp_linked : Sp := fun vs H Q _ => ∃ (L : Addr) (ys : List V) (gs : List Pg), vs = [.ref L] ∧ H L = some (.lst ys) ∧ Paired (PgAt H) ys gs ∧ gs.length ≤ 2000 ∧
  ∀ (H' : Hp) (b : Addr) (o : Obj) (xs : List V), Same H H' → H' b = some (.frz o (.tup xs)) → o.dict = none → Paired (NumAt H') xs (lnk 0 gs).1 → Q (.ref b) H'
theorem ok_linked (T : TX K mg) : FnOk P w K mg base CX0 1 (He.ga K "linked") T.fd_linked ["pages"] sp_linked := by
  refine T.F_linked.ok sc_linked (fun vs H Q E h => ?_) (fun cdv A outer st H vs Q E hr h => ?_)
  · obtain ⟨L, ys, gs, rfl, _⟩ := h
    rfl
  · obtain ⟨L, ys, gs, rfl, hL, hp, few, kq⟩ := h
    refine ⟨_, PSs.nox (pss_cons (ps_set (i := 1) sc_linked.nd rfl (Or.inl rfl) (pe_lst pa_nil))
 (pss_cons (ps_set (i := 2) sc_linked.nd rfl (Or.inl rfl) pe_int)
 (pss_cons (ps_for PassesOwn.never rfl (pi_range3 rfl T.n_range (pa_cons (pe_callB call_len_seq rfl T.n_len PySem.boot_len (pa_cons (pv 0) pa_nil)) (pa_cons pe_int (pa_cons (pe_un un_neg pe_int) pa_nil)))) (pg_name (i := 3) sc_linked.nd rfl (Or.inl rfl))
 (pss_cons (ps_set (i := 4) sc_linked.nd rfl (Or.inl rfl) (pe_ix ix_list (pv 0) (pe_op op_sub (pv 3) pe_int) (fun _ _ => rfl)))
 (pss_cons (ps_if (pt_cmpR op_eq (pe_ix ix_tup (pv 4) pe_int (fun _ _ => rfl)) pe_str (nomark _))
 (pss_cons (ps_set (i := 4) sc_linked.nd rfl (Or.inl rfl) (pe_tup (pa_cons pe_str (pa_cons (pe_ix ix_tup (pv 4) pe_int (fun _ _ => rfl)) (pa_cons (pv 2) pa_nil)))))
 (pss_one (ps_set (i := 2) sc_linked.nd rfl (Or.inl rfl) (pv 3))))
 pss_nil)
 (pss_one (ps_expr (pe_bm PySem.F.plainAttrs_list PySem.F.slot_list_append PySem.F.type_list_append mt_append (pv 1) (pa_cons (pe_tup (pa_cons (pv 3) (pa_cons (pv 4) pa_nil))) pa_nil)))))))
 (pss_one (ps_ret (RU.pe_revF rfl rfl T.n_tuple rfl T.n_reversed (pv 1))))))), ?_⟩
    refine ⟨Nat.zero_le _, fun M hM => ?_⟩
    have s1 : Same H (upd H M (.lst [])) := same_new hM
    have hM1 : upd H M (.lst []) M = some (.lst []) := upd_same
    generalize upd H M (.lst []) = H1 at s1 hM1
    have hL1 := s1 _ _ hL
    have nLM : L ≠ M := ne_of_none hL hM
    have hp1 := paired_imp (fun _ _ r => PgAt.keep (Keep.of s1) r) hp
    have yl := hp.length
    refine ⟨_, rfl, L, _, rfl, .inl (SqL.of hL1), ?_⟩
    have erg : RgC (ys.length : Int) 0 (-1) ys.length := by
      have z := RgC.neg (i := (ys.length : Int)) (j := 0) (by omega) (Int.lt_of_le_of_lt (by omega : _ ≤ (2000 : Int)) (by decide)) (by decide) (by decide)
      rw [show ((ys.length : Int) - 0).toNat = ys.length by omega] at z
      exact z
    refine ⟨1, rfl, _, _, _, ys.length, rfl, erg, ?_⟩
    refine for_rangeC (fun i σ H' => ∃ v3 v4 ns, σ = [some (.ref L), some (.ref M), some (.int (lnk (gs.length - i) (gs.drop (gs.length - i))).2), v3, v4] ∧ But M H1 H' ∧ H' M = some (.lst ns) ∧ Paired (NumAt H') ns (lnk (gs.length - i) (gs.drop (gs.length - i))).1.reverse) ⟨none, none, [], ?_, But.refl M H1, hM1, ?_⟩ ?_ ?_
    · rw [Nat.sub_zero, List.drop_length]
      rfl
    · rw [Nat.sub_zero, List.drop_length]
      exact .nil
    · rintro i σ H2 hi ⟨v3, v4, ns, rfl, b2, hM2, hn2⟩
      obtain ⟨m, hm⟩ : ∃ m, gs.length - i = m + 1 := ⟨gs.length - i - 1, by omega⟩
      obtain ⟨g, hg⟩ : ∃ g, gs[m]? = some g := ⟨_, List.getElem?_eq_getElem (by omega)⟩
      obtain ⟨y, hy, ry⟩ := pget2 hp1 hg
      have ed := drop_at hg
      have hL2 := b2 _ _ nLM hL1
      have k12 : Keep H1 H2 := Keep.but b2 fun u e => by rw [hM1] at e; cases e; rfl
      have ry2 := PgAt.keep k12 ry
      have nlen := hn2.length
      rw [hm] at hn2 ⊢
      rw [show gs.length - (i + 1) = m by omega]
      rw [show (ys.length : Int) + (i : Int) * -1 = ((m + 1 : Nat) : Int) by omega]
      have small : ns.length < sizeLine := Nat.lt_of_le_of_lt (by rw [nlen, List.length_reverse, ← List.length_map (f := (·.1)), lnk_nums]; unfold runN; rw [List.length_map, List.length_range, List.length_drop]; omega : ns.length ≤ 2000) (by decide)
      cases g with
      | leaf ps nx =>
        obtain ⟨t, q, rfl, ht, hq⟩ := ry2
        refine ⟨_, rfl, _, rfl, _, _, rfl, rfl, L, _, _, _, rfl, rfl, SqL.of hL2, HX.at_of (j := m) hy (by omega), ?_⟩
        refine ⟨_, rfl, t, _, _, _, rfl, rfl, SqT.of ht, rfl, rfl, _, rfl, iteT ?_⟩
        refine ⟨_, rfl, t, _, _, _, rfl, rfl, SqT.of ht, rfl, _, rfl, by show 3 ≤ sizeLine; decide, fun t2 ht2 => ?_⟩
        have s3 : Same H2 (upd H2 t2 (.tup [.str "leaf", .ref q, .int (lnk (m + 1) (gs.drop (m + 1))).2])) := same_new ht2
        have ht3 : upd H2 t2 (.tup [.str "leaf", .ref q, .int (lnk (m + 1) (gs.drop (m + 1))).2]) t2 = some (.tup [.str "leaf", .ref q, .int (lnk (m + 1) (gs.drop (m + 1))).2]) := upd_same
        generalize upd H2 t2 (.tup [.str "leaf", .ref q, .int (lnk (m + 1) (gs.drop (m + 1))).2]) = H3 at s3 ht3
        refine ⟨_, rfl, ?_⟩
        have hM3 := s3 _ _ hM2
        refine ⟨_, rfl, .inl ⟨rfl, _, SqL.of hM3⟩, _, rfl, _, rfl, by show 2 ≤ sizeLine; decide, fun tt htt => ?_⟩
        have s4 : Same H3 (upd H3 tt (.tup [.int ((m + 1 : Nat) : Int), .ref t2])) := same_new htt
        have htt4 : upd H3 tt (.tup [.int ((m + 1 : Nat) : Int), .ref t2]) tt = some (.tup [.int ((m + 1 : Nat) : Int), .ref t2]) := upd_same
        generalize upd H3 tt (.tup [.int ((m + 1 : Nat) : Int), .ref t2]) = H4 at s4 htt4
        have hM4 := s4 _ _ hM3
        refine ⟨M, _, _, rfl, rfl, hM4, small, some (.int ((m + 1 : Nat) : Int)), some (.ref t2), ns ++ [.ref tt], ?_, (b2.trans (But.of (s3.trans s4))).upd, upd_same, ?_⟩
        · rw [ed]
          rfl
        · have k5 : Keep H4 (upd H4 M (.lst (ns ++ [.ref tt]))) := (Keep.refl _).upd fun u e => by rw [hM4] at e; cases e; rfl
          rw [ed]
          show Paired _ _ (((((m + 1 : Nat) : Int), Pg.leaf ps (lnk (m + 1) (gs.drop (m + 1))).2) :: (lnk (m + 1) (gs.drop (m + 1))).1).reverse)
          rw [List.reverse_cons]
          exact paired_snoc (R := NumAt _) (y := (((m + 1 : Nat) : Int), Pg.leaf ps (lnk (m + 1) (gs.drop (m + 1))).2)) ⟨tt, .ref t2, rfl, k5 _ _ htt4, t2, q, rfl, k5 _ _ (s4 _ _ ht3), hq.keep ((Keep.of (s3.trans s4)).trans k5)⟩ (paired_imp (fun _ _ r => NumAt.keep ((Keep.of (s3.trans s4)).trans k5) r) hn2)
      | node ks kd =>
        obtain ⟨t, q1, q2, rfl, ht, hq1, hq2⟩ := id ry2
        refine ⟨_, rfl, _, rfl, _, _, rfl, rfl, L, _, _, _, rfl, rfl, SqL.of hL2, HX.at_of (j := m) hy (by omega), ?_⟩
        refine ⟨_, rfl, t, _, _, _, rfl, rfl, SqT.of ht, rfl, rfl, _, rfl, iteF ?_⟩
        refine ⟨_, rfl, .inl ⟨rfl, _, SqL.of hM2⟩, _, rfl, _, rfl, by show 2 ≤ sizeLine; decide, fun tt htt => ?_⟩
        have s4 : Same H2 (upd H2 tt (.tup [.int ((m + 1 : Nat) : Int), .ref t])) := same_new htt
        have htt4 : upd H2 tt (.tup [.int ((m + 1 : Nat) : Int), .ref t]) tt = some (.tup [.int ((m + 1 : Nat) : Int), .ref t]) := upd_same
        generalize upd H2 tt (.tup [.int ((m + 1 : Nat) : Int), .ref t]) = H4 at s4 htt4
        have hM4 := s4 _ _ hM2
        refine ⟨M, _, _, rfl, rfl, hM4, small, some (.int ((m + 1 : Nat) : Int)), some (.ref t), ns ++ [.ref tt], ?_, (b2.trans (But.of s4)).upd, upd_same, ?_⟩
        · rw [ed]
          rfl
        · have k5 : Keep H4 (upd H4 M (.lst (ns ++ [.ref tt]))) := (Keep.refl _).upd fun u e => by rw [hM4] at e; cases e; rfl
          rw [ed]
          show Paired _ _ (((((m + 1 : Nat) : Int), Pg.node ks kd) :: (lnk (m + 1) (gs.drop (m + 1))).1).reverse)
          rw [List.reverse_cons]
          exact paired_snoc (R := NumAt _) (y := (((m + 1 : Nat) : Int), Pg.node ks kd)) ⟨tt, .ref t, rfl, k5 _ _ htt4, PgAt.keep ((Keep.of s4).trans k5) ry2⟩ (paired_imp (fun _ _ r => NumAt.keep ((Keep.of s4).trans k5) r) hn2)
    · rintro σ H2 ⟨v3, v4, ns, rfl, b2, hM2, hn2⟩
      rw [yl, Nat.sub_self, List.drop_zero] at hn2
      refine ⟨_, rfl, M, ns, rfl, SqL.of hM2, fun p H3 s3 np hp3 => ?_⟩
      obtain ⟨o, h1, h2⟩ := hp3
      have z := paired_rev (paired_imp (fun _ _ r => NumAt.keep (Keep.of s3) r) hn2)
      rw [List.reverse_reverse] at z
      exact kq H3 p o ns.reverse (fun b o e => s3 _ _ (b2 _ _ (ne_of_none e hM) (s1 _ _ e))) h1 h2 z
end
end K30

namespace K30
open PySem PySem.Spec PyProof.Rows L2 RZ HX TR RP EQT
theorem num_same {H H' : Hp} (k : Same H H') {xs : List V} {S : List (Int × Pg)} (h : Paired (NumAt H) xs S) : Paired (NumAt H') xs S := paired_imp (fun _ _ r => NumAt.keep (Keep.of k) r) h
section
variable {P : Program} {w : World} {K : PySem.W.Frag} {mg : Str → Option Value} {base : Heap}
def sp_need_room : Sp := fun vs H Q _ => ∃ n : Int, vs = [.int n] ∧ 3 ≤ n ∧ n ≤ 8 ∧ Q .non H
theorem ok_need_room (T : TX K mg) : FnOk P w K mg base CX0 4 (He.ga K "need_room") T.fd_need_room ["thing"] sp_need_room := by
  have G_is_room : FnOk P w K mg base CX0 3 (He.ga K "is_room") T.fd_is_room ["thing"] (sp_rng 3 8) := ok_is_room T
  have b_is_room := b_is_room T
  refine T.F_need_room.ok sc_need_room (fun vs H Q E h => ?_) (fun cdv A outer st H vs Q E hr h => ?_)
  · obtain ⟨n, rfl, _⟩ := h
    rfl
  · obtain ⟨n, rfl, h1, h2, kq⟩ := h
    refine ⟨_, PSs.nox (pss_one (ps_if (pt_not (pt_val (pe_call G_is_room (hr.mono (by first | decide | omega)) rfl T.g_is_room T.F_is_room.kp b_is_room .nil pass0 (pa_cons (pv 0) pa_nil))))
 (pss_one ps_never)
 pss_nil)), ?_⟩
    refine ⟨_, rfl, n, rfl, ?_⟩
    rw [decide_eq_true h1, decide_eq_true h2]
    exact ⟨true, rfl, iteF kq⟩
def sp_need_rising_pairs : Sp := fun vs H Q _ => ∃ (a : Addr) (ps : List (Int × Int)), vs = [.ref a] ∧ PrT H a ps ∧ (∀ q ∈ ps, GoodPr q) ∧ ps.Pairwise (fun a b => a.1 < b.1) ∧ ps.length ≤ 1000 ∧ ∀ H', Same H H' → Q .non H'
theorem ok_need_rising_pairs (T : TX K mg) : FnOk P w K mg base CX0 7 (He.ga K "need_rising_pairs") T.fd_need_rising_pairs ["thing"] sp_need_rising_pairs := by
  have G_are_rising_pairs : FnOk P w K mg base CX0 6 (He.ga K "are_rising_pairs") T.fd_are_rising_pairs ["thing"] sp_are_rising_pairs := ok_are_rising_pairs T
  have b_are_rising_pairs := b_are_rising_pairs T
  refine T.F_need_rising_pairs.ok sc_need_rising_pairs (fun vs H Q E h => ?_) (fun cdv A outer st H vs Q E hr h => ?_)
  · obtain ⟨a, ps, rfl, _⟩ := h
    rfl
  · obtain ⟨a, ps, rfl, h1, h2, h3, h4, kq⟩ := h
    refine ⟨_, PSs.nox (pss_one (ps_if (pt_not (pt_val (pe_call G_are_rising_pairs (hr.mono (by first | decide | omega)) rfl T.g_are_rising_pairs T.F_are_rising_pairs.kp b_are_rising_pairs .nil pass0 (pa_cons (pv 0) pa_nil))))
 (pss_one ps_never)
 pss_nil)), ?_⟩
    refine ⟨_, rfl, a, ps, rfl, h1, h2, h3, h4, fun H1 s1 => ?_⟩
    exact ⟨true, rfl, iteF (kq H1 s1)⟩
theorem b_tree_by (T : TX K mg) : ∃ ds, Vals [V.int 4] ds ∧ Binds K T.fd_tree_by ["shape", "pairs", "room"] ds :=
  T.F_tree_by.binds0 2 (by simp) rfl fun D doc pm an cdv ct us ks h1 h2 => match us, ks, h1, h2 with
    | [u, u2], [k], _, _ => ⟨_, _, _, _, _, _, rfl, rfl, rfl⟩
theorem kb_tree_by (T : TX K mg) : KBn K T.fd_tree_by ["shape", "pairs", "room"] 2 ["room"] (fun us ws => us ++ ws) (fun vs zs => vs ++ zs) := by
  obtain ⟨mv, h⟩ := T.F_tree_by.kbinds0 (ps := ["shape", "pairs", "room"]) 2 ["room"] [] (fun us _ ws => us ++ ws) (by simp) (fun q hq => by cases hq) (fun h1 _ h3 => h1.append h3) fun D doc pm an cdv ct us mv ws h1 h2 h3 => match us, mv, ws, h1, h2, h3 with
    | [u, u2], [], [k], _, _, _ => rfl
  exact h
def TwT (room l : Nat) (s : Sh l) (ps : List (Int × Int)) : Prop := l ≤ 8 ∧ 3 ≤ room ∧ room ≤ 8 ∧ WfSh room l true s ∧ ps.length = cntS l s ∧ ps.length ≤ 900 ∧ (∀ q ∈ ps, GoodPr q) ∧ ps.Pairwise (fun a b => a.1 < b.1)
def sp_tree_by : Sp := fun vs H Q _ => ∃ (v : V) (room l : Nat) (s : Sh l) (pr : Addr) (ps : List (Int × Int)), vs = [v, .ref pr, .int (room : Int)] ∧ TwT room l s ps ∧ ShAt H l v s ∧ PrT H pr ps ∧
  ∀ (H' : Hp) (v' : V), Same H H' → SndAt H' v' room l (setT l s 0 ps) (lnk 0 (pre l (setT l s 0 ps))).1 → Q v' H'
theorem ok_tree_by (T : TX K mg) : FnOk P w K mg base CX0 22 (He.ga K "tree_by") T.fd_tree_by ["shape", "pairs", "room"] sp_tree_by := by
  have G_need_room : FnOk P w K mg base CX0 4 (He.ga K "need_room") T.fd_need_room ["thing"] sp_need_room := ok_need_room T
  have b_need_room := b_need_room T
  have G_need_shape : FnOk P w K mg base CX0 21 (He.ga K "need_shape") T.fd_need_shape ["thing", "room"] sp_need_shape := ok_need_shape T
  have b_need_shape := b_need_shape T
  have G_need_rising_pairs : FnOk P w K mg base CX0 7 (He.ga K "need_rising_pairs") T.fd_need_rising_pairs ["thing"] sp_need_rising_pairs := ok_need_rising_pairs T
  have b_need_rising_pairs := b_need_rising_pairs T
  have G_pairs_in_shape : FnOk P w K mg base CX0 11 (He.ga K "pairs_in_shape") T.fd_pairs_in_shape ["shape"] (sp_pairs_in_shape 9) := ok_pairs_in_shape T 9
  have b_pairs_in_shape := b_pairs_in_shape T
  have G_set_down : FnOk P w K mg base CX0 21 (He.ga K "set_down") T.fd_set_down ["shape", "pairs", "pages"] (sp_set_down 9) := ok_set_down T 9
  have b_set_down := b_set_down T
  have G_linked : FnOk P w K mg base CX0 1 (He.ga K "linked") T.fd_linked ["pages"] sp_linked := ok_linked T
  have b_linked := b_linked T
  refine T.F_tree_by.ok sc_tree_by (fun vs H Q E h => ?_) (fun cdv A outer st H vs Q E hr h => ?_)
  · obtain ⟨v, room, l, s, pr, ps, rfl, _⟩ := h
    rfl
  · obtain ⟨v, room, l, s, pr, ps, rfl, ⟨l8, r3, r8, wf, e, few, good, up⟩, hs, hpr, kq⟩ := h
    refine ⟨_, PSs.nox (pss_cons (ps_expr (pe_call G_need_room (hr.mono (by first | decide | omega)) rfl T.g_need_room T.F_need_room.kp b_need_room .nil pass0 (pa_cons (pv 2) pa_nil)))
 (pss_cons (ps_expr (pe_call G_need_shape (hr.mono (by first | decide | omega)) rfl T.g_need_shape T.F_need_shape.kp b_need_shape .nil pass0 (pa_cons (pv 0) (pa_cons (pv 2) pa_nil))))
 (pss_cons (ps_expr (pe_call G_need_rising_pairs (hr.mono (by first | decide | omega)) rfl T.g_need_rising_pairs T.F_need_rising_pairs.kp b_need_rising_pairs .nil pass0 (pa_cons (pv 1) pa_nil)))
 (pss_cons (ps_if (pt_cmpR op_ne (pe_callB call_len_seq rfl T.n_len PySem.boot_len (pa_cons (pv 1) pa_nil)) (pe_call G_pairs_in_shape (hr.mono (by first | decide | omega)) rfl T.g_pairs_in_shape T.F_pairs_in_shape.kp b_pairs_in_shape .nil pass0 (pa_cons (pv 0) pa_nil)) (nomark _))
 (pss_one ps_never)
 pss_nil)
 (pss_cons (ps_set (i := 3) sc_tree_by.nd rfl (Or.inl rfl) (pe_lst pa_nil))
 (pss_cons (ps_expr (pe_call G_set_down (hr.mono (by first | decide | omega)) rfl T.g_set_down T.F_set_down.kp b_set_down .nil pass0 (pa_cons (pv 0) (pa_cons (pv 1) (pa_cons (pv 3) pa_nil)))))
 (pss_one (ps_ret (pe_tup (pa_cons (pv 2) (pa_cons pe_int (pa_cons (pe_call G_linked (hr.mono (by first | decide | omega)) rfl T.g_linked T.F_linked.kp b_linked .nil pass0 (pa_cons (pv 3) pa_nil)) pa_nil)))))))))))), ?_⟩
    refine ⟨_, rfl, (room : Int), rfl, by omega, by omega, ?_⟩
    refine ⟨_, rfl, _, rfl, v, room, l, s, rfl, l8, r3, r8, hs, wf, fun H1 s1 => ?_⟩
    refine ⟨_, rfl, pr, ps, rfl, PrT.same s1 hpr, good, up, by omega, fun H2 s2 => ?_⟩
    have s12 := s1.trans s2
    obtain ⟨xs, hxa, hxp⟩ := PrT.same s12 hpr
    refine ⟨_, rfl, pr, _, rfl, .inr hxa.sq, ?_⟩
    refine ⟨_, rfl, v, l, s, rfl, by omega, ShAt.keep (Keep.of s12) hs, by omega, posS r3 wf, fun H3 s3 => ?_⟩
    have exl : xs.length = cntS l s := hxp.length.trans e
    rw [exl]
    refine ⟨rfl, _, rfl, ?_⟩
    rw [decide_eq_true rfl]
    refine iteF ⟨Nat.zero_le _, fun L hL => ?_⟩
    have s4 : Same H3 (upd H3 L (.lst [])) := same_new hL
    have hL4 : upd H3 L (.lst []) L = some (.lst []) := upd_same
    generalize upd H3 L (.lst []) = H4 at s4 hL4
    have s03 := s12.trans s3
    have s04 := s03.trans s4
    have pg1 := pgs_cnt1 r3 wf
    refine ⟨_, rfl, _, rfl, _, rfl, v, room, true, l, s, pr, L, ps, [], rfl, by omega, l8, r3, r8, wf, ShAt.keep (Keep.of s04) hs, PrT.same s04 hpr, e, hL4, by show 0 + pgsS l s ≤ 2000; omega, fun H5 ys b5 hL5 hy5 => ?_⟩
    have plen : (pre l (setT l s 0 ps)).length ≤ 2000 := by rw [set_pre_len]; omega
    refine ⟨_, rfl, _, rfl, L, ys, pre l (setT l s 0 ps), rfl, hL5, hy5, plen, fun H6 b o zs s6 hb ho hz => ?_⟩
    refine ⟨by show 3 ≤ sizeLine; decide, fun q hq => ?_⟩
    have s7 : Same H6 (upd H6 q (.tup [.int (room : Int), .int 1, .ref b])) := same_new hq
    have hq7 : upd H6 q (.tup [.int (room : Int), .int 1, .ref b]) q = some (.tup [.int (room : Int), .int 1, .ref b]) := upd_same
    generalize upd H6 q (.tup [.int (room : Int), .int 1, .ref b]) = H7 at s7 hq7
    have sall : Same H H7 := fun c oo ec => (s6.trans s7) _ _ (b5 _ _ (ne_of_none (s03 _ _ ec) hL) (s04 _ _ ec))
    refine kq H7 (.ref q) sall ⟨set_tree r3 r8 wf e up good (by omega), ?_⟩
    rw [set_num]
    exact ⟨q, b, o, zs, rfl, hq7, s7 _ _ hb, ho, num_same s7 hz⟩
end
end K30

namespace K30
open PySem PySem.Spec PyProof.Rows L2 RZ HX TR RP EQT
/-! the law's own tree: pages into a dict, leaves linked behind -/
def nb : Nat → List Pg → List (Int × Pg)
  | _, [] => []
  | a, g :: gs => (((a + 1 : Nat) : Int), g) :: nb (a + 1) gs
theorem nb_app : ∀ {xs ys : List Pg} {a : Nat}, nb a (xs ++ ys) = nb a xs ++ nb (a + xs.length) ys
  | [], _, _ => rfl
  | x :: xs, ys, a => by
    show (((a + 1 : Nat) : Int), x) :: nb (a + 1) (xs ++ ys) = (((a + 1 : Nat) : Int), x) :: nb (a + 1) xs ++ _
    rw [nb_app, List.cons_append, List.length_cons, show a + 1 + xs.length = a + (xs.length + 1) by omega]
theorem nb_nums : ∀ {gs : List Pg} {a : Nat}, (nb a gs).map (·.1) = runN a gs.length
  | [], _ => rfl
  | g :: gs, a => by
    show ((a + 1 : Nat) : Int) :: (nb (a + 1) gs).map (·.1) = _
    rw [nb_nums, List.length_cons, runN_cons]
theorem nb_at : ∀ {gs : List Pg} {a i : Nat} {g : Pg}, gs[i]? = some g → (((a + i + 1 : Nat) : Int), g) ∈ nb a gs
  | g :: gs, a, 0, _, h => by
    cases h
    exact List.mem_cons_self ..
  | _ :: gs, a, i + 1, g, h => by
    rw [List.getElem?_cons_succ] at h
    have z := nb_at (a := a + 1) h
    rw [show a + 1 + i + 1 = a + (i + 1) + 1 by omega] at z
    exact List.mem_cons_of_mem _ z
theorem cut_to' {xs : List V} {n : Nat} : cutV xs none (some (n : Int)) = xs.take n := by
  by_cases h : n ≤ xs.length
  · exact cut_to h
  · have e1 : HT.sIx xs.length 0 none = 0 := rfl
    have e2 : HT.sIx xs.length xs.length (some (n : Int)) = xs.length := by rw [HT.sIx_nat]; omega
    unfold cutV
    rw [e1, e2, List.take_of_length_le (by omega : xs.length ≤ n)]
    exact List.take_of_length_le (Nat.le_refl _)
/-- keys from 1 to n -/
def Low (n : Nat) (es : List (Key × V)) : Prop := ∀ e ∈ es, ∃ j : Nat, j < n ∧ e.1 = .inl ((j + 1 : Nat) : Int)
theorem Low.le {n m : Nat} {es : List (Key × V)} (h : Low n es) (le : n ≤ m) : Low m es := fun e he => by
  obtain ⟨j, h1, h2⟩ := h e he
  exact ⟨j, by omega, h2⟩
theorem Low.app {n : Nat} {es fs : List (Key × V)} (h : Low n es) (g : Low n fs) : Low n (es ++ fs) := fun e he => by
  rcases List.mem_append.mp he with he | he
  · exact h e he
  · exact g e he
theorem Low.ne {n m : Nat} {es : List (Key × V)} (h : Low n es) (le : n ≤ m) : ∀ e ∈ es, e.1 ≠ .inl ((m + 1 : Nat) : Int) := fun e he z => by
  obtain ⟨j, h1, h2⟩ := h e he
  rw [h2] at z
  injection z with z
  omega
theorem en_keys {H : Hp} {es : List (Key × V)} {a : Nat} {gs : List Pg} (h : Paired (EnAt H) es (nb a gs)) : ∀ e ∈ es, ∃ i : Nat, i < gs.length ∧ e.1 = .inl ((a + i + 1 : Nat) : Int) := fun e he => by
  obtain ⟨i, hi⟩ := List.getElem?_of_mem he
  obtain ⟨q, hq, r1, _⟩ := pget1 h hi
  have hq' : (runN a gs.length)[i]? = some q.1 := by
    rw [← nb_nums, List.getElem?_map, hq]
    rfl
  unfold runN at hq'
  rw [List.getElem?_map] at hq'
  have il : i < gs.length := by
    have := (List.getElem?_eq_some_iff.mp hq).1
    have z := congrArg List.length (nb_nums (gs := gs) (a := a))
    rw [List.length_map] at z
    unfold runN at z
    rw [List.length_map, List.length_range] at z
    omega
  rw [List.getElem?_range il] at hq'
  refine ⟨i, il, ?_⟩
  rw [r1, ← Option.some.inj hq']
theorem en_low {H : Hp} {es : List (Key × V)} {a : Nat} {gs : List Pg} (h : Paired (EnAt H) es (nb a gs)) : Low (a + gs.length) es := fun e he => by
  obtain ⟨i, h1, h2⟩ := en_keys h e he
  exact ⟨a + i, by omega, h2⟩
theorem putK_new {es : List (Key × V)} {k : Key} {v : V} (h : ∀ e ∈ es, e.1 ≠ k) : putK es k v = es ++ [(k, v)] := by
  unfold putK
  rw [if_neg]
  intro z
  obtain ⟨x, hx, hx2⟩ := List.any_eq_true.mp z
  exact h x hx (of_decide_eq_true hx2)
theorem putK_mid {es fs : List (Key × V)} {k : Key} {u v : V} (h : ∀ e ∈ es, e.1 ≠ k) (g : ∀ e ∈ fs, e.1 ≠ k) : putK (es ++ (k, u) :: fs) k v = es ++ (k, v) :: fs := by
  unfold putK
  rw [if_pos (List.any_eq_true.mpr ⟨(k, u), List.mem_append_right _ (List.mem_cons_self ..), decide_eq_true rfl⟩), List.map_append, List.map_cons]
  have id_of : ∀ {ys : List (Key × V)}, (∀ e ∈ ys, e.1 ≠ k) → (ys.map fun kv => if kv.1 = k then (kv.1, v) else kv) = ys := by
    intro ys hy
    exact (List.map_congr_left (g := id) fun e he => if_neg (hy e he)).trans (List.map_id _)
  rw [id_of h, id_of g]
  show es ++ (if k = k then (k, v) else (k, u)) :: fs = _
  rw [if_pos rfl]
theorem setKids_lvs {l : Nat} : ∀ {ks : List (Sh l)} {a : Nat} {ps : List (Int × Int)}, ((setKids (setT l) ks a ps).flatMap (lvs l)).length ≤ (ks.map (pgsS l)).sum
  | [], _, _ => Nat.le_refl _
  | k :: ks, a, ps => by
    show ((setT l k a _ :: setKids (setT l) ks _ _).flatMap (lvs l)).length ≤ _
    rw [List.flatMap_cons, List.length_append, List.map_cons, List.sum_cons]
    have z := lvs_len (l := l) (t := setT l k a (ps.take (cntS l k)))
    rw [set_nums] at z
    unfold runN at z
    rw [List.length_map, List.length_range] at z
    have y := setKids_lvs (ks := ks) (a := a + pgsS l k) (ps := ps.drop (cntS l k))
    omega
theorem nb_len {gs : List Pg} {a : Nat} : (nb a gs).length = gs.length := by
  have z := congrArg List.length (nb_nums (gs := gs) (a := a))
  rw [List.length_map] at z
  unfold runN at z
  rw [List.length_map, List.length_range] at z
  exact z
/-- what a kid that is laid tells: its number, its first key -/
def GAt (R a1 D L : Addr) (l : Nat) (H : Hp) (t : Addr) (k : Tr l) : Prop := ∃ f, H t = some (.tup [.int (num l k), .ref f]) ∧ H f = some (.lst [.int (frs (prs l k))]) ∧ f ≠ R ∧ f ≠ a1 ∧ f ≠ D ∧ f ≠ L
section
variable {P : Program} {w : World} {K : PySem.W.Frag} {mg : Str → Option Value} {base : Heap}
/-- all but three stay -/
def But3' (R a D : Addr) (H H' : Hp) : Prop := ∀ b o, b ≠ R → b ≠ a → b ≠ D → H b = some o → H' b = some o
def sp_law_grown (N : Nat) : Sp := fun vs H Q _ => ∃ (v : V) (room : Nat) (top : Bool) (l : Nat) (s : Sh l) (R D a0 a1 : Addr) (ps : List (Int × Int)) (zs : List V) (ns : List Int) (es : List (Key × V)), vs = [v, .ref R, .ref D] ∧ l < N ∧ l ≤ 8 ∧ 3 ≤ room ∧ room ≤ 8 ∧ WfSh room l top s ∧ ShAt H l v s ∧
  H R = some (.lst [.ref a0, .ref a1]) ∧ a0 ≠ R ∧ a0 ≠ a1 ∧ H a0 = some (.lst zs) ∧ Paired (PrAt H) zs ps ∧ cntS l s ≤ ps.length ∧ ps.length ≤ 2000 ∧ H a1 = some (.lst (ns.map V.int)) ∧ H D = some (.dK es) ∧ Low es.length es ∧ es.length + pgsS l s ≤ 2000 ∧ ns.length ≤ es.length ∧
  ∀ (H' : Hp) (t f b0 : Addr) (es' : List (Key × V)), But3' R a1 D H H' → H' R = some (.lst [.ref b0, .ref a1]) → b0 ≠ R → b0 ≠ a1 → (b0 = a0 ∨ H b0 = none) → H' b0 = some (.lst (zs.drop (cntS l s))) → H' a1 = some (.lst ((ns ++ lvs l (setT l s es.length (ps.take (cntS l s)))).map V.int)) →
    H' D = some (.dK (es ++ es')) → Paired (EnAt H') es' (nb es.length (pre l (setT l s es.length (ps.take (cntS l s))))) → H' t = some (.tup [.int ((es.length + 1 : Nat) : Int), .ref f]) → H f = none → H' f = some (.lst ((ps.take 1).map fun q => V.int q.1)) → Q (.ref t) H'
theorem ok_law_grown (T : TX K mg) : ∀ N : Nat, FnOk P w K mg base CX0 (N + 1) (He.ga K "_law_grown") T.fd_law_grown ["shape", "rest", "pages"] (sp_law_grown N) := by
  intro N
  induction N with
  | zero =>
    refine T.F_law_grown.ok sc_law_grown (fun vs H Q E h => ?_) (fun cdv A outer st H vs Q E hr h => ?_)
    · obtain ⟨v, room, top, l, s, R, D, a0, a1, ps, zs, ns, es, rfl, _⟩ := h
      rfl
    · obtain ⟨v, room, top, l, s, R, D, a0, a1, ps, zs, ns, es, rfl, hl, _⟩ := h
      omega
  | succ N ih =>
    have G_law_grown := ih
    have b_law_grown := b_law_grown T
    refine T.F_law_grown.ok sc_law_grown (fun vs H Q E h => ?_) (fun cdv A outer st H vs Q E hr h => ?_)
    · obtain ⟨v, room, top, l, s, R, D, a0, a1, ps, zs, ns, es, rfl, _⟩ := h
      rfl
    · obtain ⟨v, room, top, l, s, R, D, a0, a1, ps, zs, ns, es, rfl, hl, l8, r3, r8, wf, hs, hR, nR, n1, h0, hz, few, pfew, h1, hD, low, efew, nfew, kq⟩ := h
      refine ⟨_, PSs.nox (pss_cons (ps_set (i := 3) sc_law_grown.nd rfl (Or.inl rfl) (pe_op op_add (pe_callB call_lenD rfl T.n_len PySem.boot_len (pa_cons (pv 2) pa_nil)) pe_int))
 (pss_cons (ps_setLc (i := 4) (own := [("pair", 7)]) (g := gName 7) (tt := tYes) rfl sc_law_grown.nd rfl rfl (sw_true rfl rfl rfl (by decide +kernel)) (pi_list (pe_slice sl_list (pe_ix ix_list (pv 1) pe_int (fun _ _ => rfl)) po_none (po_some pe_int))) (blkOk_by (own := [("pair", 7)]) (N := ["shape", "rest", "pages", "number", "first", "kids", "keys", "pair", "kid"]) (sc := defScope s_law_grown) (by decide +kernel)) (fun _ _ _ _ _ => (pg_name (i := 7) sc_law_grown.nd rfl (Or.inl rfl))) (fun _ _ _ _ _ => pts_nil) (fun _ _ _ _ _ => (pe_ix (ixt K) (pv 7) pe_int (fun _ _ => rfl))))
 (pss_cons (ps_if (pt_val (pe_callB call_isi rfl T.n_isinstance (by decide +kernel) (pa_cons (pv 0) (pa_cons (pe_ty "int" T.n_int (by decide +kernel)) pa_nil))))
 (pss_cons (ps_dput (hu_of hr) (pv 2) (pv 3) (pe_tup (pa_cons pe_str (pa_cons (pe_callTy RU.call_tupF rfl T.n_tuple (by decide +kernel) (pa_cons (pe_slice sl_list (pe_ix ix_list (pv 1) pe_int (fun _ _ => rfl)) po_none (po_some (pv 0))) pa_nil)) (pa_cons pe_int pa_nil)))) rfl)
 (pss_cons (ps_asg (pe_slice sl_list (pe_ix ix_list (pv 1) pe_int (fun _ _ => rfl)) (po_some (pv 0)) po_none) (pg_sub (pv 1) pe_int set_list))
 (pss_cons (ps_expr (pe_bm PySem.F.plainAttrs_list PySem.F.slot_list_append PySem.F.type_list_append mt_append (pe_ix ix_list (pv 1) pe_int (fun _ _ => rfl)) (pa_cons (pv 3) pa_nil)))
 (pss_one (ps_ret (pe_tup (pa_cons (pv 3) (pa_cons (pv 4) pa_nil))))))))
 pss_nil)
 (pss_cons (ps_dput (hu_of hr) (pv 2) (pv 3) pe_non rfl)
 (pss_cons (ps_setLc (i := 5) (own := [("kid", 8)]) (g := gName 8) (tt := tYes) rfl sc_law_grown.nd rfl rfl (sw_true rfl rfl rfl (by decide +kernel)) (pi_tup (pv 0)) (blkOk_by (own := [("kid", 8)]) (N := ["shape", "rest", "pages", "number", "first", "kids", "keys", "pair", "kid"]) (sc := defScope s_law_grown) (by decide +kernel)) (fun _ _ _ _ _ => (pg_name (i := 8) sc_law_grown.nd rfl (Or.inl rfl))) (fun _ _ _ _ _ => pts_nil) (fun _ _ _ _ _ => (pe_call G_law_grown (hr.mono (by first | decide | omega)) rfl T.g_law_grown T.F_law_grown.kp b_law_grown .nil pass0 (pa_cons (pv 8) (pa_cons (pv 1) (pa_cons (pv 2) pa_nil))))))
 (pss_cons (ps_set (i := 6) sc_law_grown.nd rfl (Or.inl rfl) (pe_callTy call_tuple_of rfl T.n_tuple (by decide +kernel) (pa_cons (pe_lc (own := [("kid", 8)]) (g := gName 8) (tt := tYes) rfl sc_law_grown.nd (pi_list (pe_slice sl_list (pv 5) (po_some pe_int) po_none)) (blkOk_by (own := [("kid", 8)]) (N := ["shape", "rest", "pages", "number", "first", "kids", "keys", "pair", "kid"]) (sc := defScope s_law_grown) (by decide +kernel)) (fun _ _ _ _ _ => (pg_name (i := 8) sc_law_grown.nd rfl (Or.inl rfl))) (fun _ _ _ _ _ => pts_nil) (fun _ _ _ _ _ => (pe_ix (ixl K) (pe_ix (ixt K) (pv 8) pe_int (fun _ _ => rfl)) pe_int (fun _ _ => rfl)))) pa_nil)))
 (pss_cons (ps_dput (hu_of hr) (pv 2) (pv 3) (pe_tup (pa_cons pe_str (pa_cons (pv 6) (pa_cons (pe_callTy RU.call_tupF rfl T.n_tuple (by decide +kernel) (pa_cons (pe_lc (own := [("kid", 8)]) (g := gName 8) (tt := tYes) rfl sc_law_grown.nd (pi_list (pv 5)) (blkOk_by (own := [("kid", 8)]) (N := ["shape", "rest", "pages", "number", "first", "kids", "keys", "pair", "kid"]) (sc := defScope s_law_grown) (by decide +kernel)) (fun _ _ _ _ _ => (pg_name (i := 8) sc_law_grown.nd rfl (Or.inl rfl))) (fun _ _ _ _ _ => pts_nil) (fun _ _ _ _ _ => (pe_ix (ixt K) (pv 8) pe_int (fun _ _ => rfl)))) pa_nil)) pa_nil)))) rfl)
 (pss_one (ps_ret (pe_tup (pa_cons (pv 3) (pa_cons (pv 4) pa_nil)))))))))))), ?_⟩
      refine ⟨_, rfl, D, es, rfl, hD, _, _, rfl, rfl, ?_⟩
      refine ⟨_, rfl, R, _, 0, _, rfl, rfl, SqL.of hR, rfl, 1, rfl, a0, _, rfl, SqL.of h0, fun p hp => ?_⟩
      rw [show (1 : Int) = ((1 : Nat) : Int) from rfl, cut_to']
      have s1 : Same H (upd H p (.lst (zs.take 1))) := same_new hp
      have hp1 : upd H p (.lst (zs.take 1)) p = some (.lst (zs.take 1)) := upd_same
      generalize upd H p (.lst (zs.take 1)) = H1 at s1 hp1
      refine ⟨p, rfl, ⟨_, SqL.of hp1⟩, fun f hf => ?_⟩
      have hz1 : Paired (PrAt H1) (zs.take 1) (ps.take 1) := paired_take 1 (paired_imp (fun _ _ r => PrAt.keep (Keep.of s1) r) hz)
      refine lc_it (walk_list (xs := zs.take 1)) (fun j H' => Same H1 H' ∧ H' f = some (.lst (((ps.take 1).take j).map fun q => V.int q.1))) ⟨same_new hf, upd_same⟩ (fun j H' _ z => SqL.of (z.1 _ _ hp1)) ?_ ?_
      · rintro j x H3 H4 hj ⟨s3, hf3⟩ ⟨rfl, hx⟩
        obtain ⟨q, hq, t, rfl, ht⟩ := pget1 hz1 hx
        refine ⟨rfl, ?_⟩
        dsimp only [tYes]
        rw [if_pos rfl]
        refine ⟨_, rfl, t, _, 0, _, rfl, rfl, SqT.of (s3 _ _ ht), rfl, _, hf3, ?_, same_upd s3 hf, ?_⟩
        · rw [List.length_map, List.length_take]
          exact Nat.lt_of_le_of_lt (by have := (List.getElem?_eq_some_iff.mp hx).1; rw [List.length_take] at this; omega : _ ≤ 2) (by decide)
        · rw [upd_same, take_more hq, List.map_append]
          rfl
      rintro H3 ⟨s3, hf3⟩
      rw [hz1.length, List.take_length] at hf3
      have fH : H f = none := Same.free s1 hf
      have s03 := s1.trans s3
      have hs3 := ShAt.keep (Keep.of s03) hs
      have hR3 := s03 _ _ hR
      have h03 := s03 _ _ h0
      have h13 := s03 _ _ h1
      have hD3 := s03 _ _ hD
      have hz3 : Paired (PrAt H3) zs ps := paired_imp (fun _ _ r => PrAt.keep (Keep.of s03) r) hz
      have nfR : f ≠ R := fun e => by rw [e, hR] at fH; cases fH
      have nfa : f ≠ a1 := fun e => by rw [e, h1] at fH; cases fH
      have nfD : f ≠ D := fun e => by rw [e, hD] at fH; cases fH
      have nf0 : f ≠ a0 := fun e => by rw [e, h0] at fH; cases fH
      have nRD : R ≠ D := fun e => by rw [e, hD] at hR; cases hR
      have naD : a1 ≠ D := fun e => by rw [e, hD] at h1; cases h1
      have n0D : a0 ≠ D := fun e => by rw [e, hD] at h0; cases h0
      have nRa : R ≠ a1 := fun e => by
        rw [e, h1] at hR
        injection hR with z
        injection z with z
        cases ns with
        | nil => cases z
        | cons n ns => cases z
      have en : (es.length : Int) + 1 = ((es.length + 1 : Nat) : Int) := by omega
      cases l with
      | zero =>
        obtain rfl : v = .int (s.n : Int) := hs
        refine ⟨_, rfl, _, _, .type "int", .type "int", true, rfl, .ty "int", .base (.int _), kit_ty (by decide +kernel), true, rfl, ?_⟩
        refine iteT ?_
        refine ⟨_, rfl, R, _, 0, _, rfl, rfl, SqL.of hR3, rfl, _, rfl, _, rfl, a0, _, rfl, SqL.of h03, fun p2 hp2 => ?_⟩
        rw [cut_to']
        have s4 : Same H3 (upd H3 p2 (.lst (zs.take s.n))) := same_new hp2
        have hp4 : upd H3 p2 (.lst (zs.take s.n)) p2 = some (.lst (zs.take s.n)) := upd_same
        generalize upd H3 p2 (.lst (zs.take s.n)) = H4 at s4 hp4
        refine ⟨p2, _, rfl, SqL.of hp4, fun q o hq ho => ?_⟩
        have s5 : Same H4 (upd H4 q (.frz o (.tup (zs.take s.n)))) := same_new hq
        have hq5 : FzT (upd H4 q (.frz o (.tup (zs.take s.n)))) q (zs.take s.n) := ⟨o, upd_same, ho⟩
        generalize upd H4 q (.frz o (.tup (zs.take s.n))) = H5 at s5 hq5
        refine ⟨by show 3 ≤ sizeLine; decide, fun t ht => ?_⟩
        have s6 : Same H5 (upd H5 t (.tup [.str "leaf", .ref q, .int 0])) := same_new ht
        have ht6 : upd H5 t (.tup [.str "leaf", .ref q, .int 0]) t = some (.tup [.str "leaf", .ref q, .int 0]) := upd_same
        generalize upd H5 t (.tup [.str "leaf", .ref q, .int 0]) = H6 at s6 ht6
        have s36 := (s4.trans s5).trans s6
        have hD6 := s36 _ _ hD3
        refine ⟨_, rfl, _, rfl, D, _, rfl, DPut.k (k := .inl ((es.length + 1 : Nat) : Int)) hD6 (Nat.lt_of_le_of_lt (by omega : es.length ≤ 2000) (by decide)), ?_⟩
        rw [putK_new (low.ne (Nat.le_refl _))]
        have st7 : ∀ b o, b ≠ D → H6 b = some o → upd H6 D (.dK (es ++ [(.inl ((es.length + 1 : Nat) : Int), .ref t)])) b = some o := fun b o n e => by rw [upd_ne n]; exact e
        have hD7 : upd H6 D (.dK (es ++ [(.inl ((es.length + 1 : Nat) : Int), .ref t)])) D = some (.dK (es ++ [(.inl ((es.length + 1 : Nat) : Int), .ref t)])) := upd_same
        generalize upd H6 D (.dK (es ++ [(.inl ((es.length + 1 : Nat) : Int), .ref t)])) = H7 at st7 hD7
        have hR7 := st7 _ _ nRD (s36 _ _ hR3)
        have h07 := st7 _ _ n0D (s36 _ _ h03)
        have h17 := st7 _ _ naD (s36 _ _ h13)
        refine ⟨_, rfl, R, _, 0, _, rfl, rfl, SqL.of hR7, rfl, _, rfl, _, rfl, a0, _, rfl, SqL.of h07, fun p3 hp3 => ?_⟩
        rw [cut_from']
        have s8 : Same H7 (upd H7 p3 (.lst (zs.drop s.n))) := same_new hp3
        have hp8 : upd H7 p3 (.lst (zs.drop s.n)) p3 = some (.lst (zs.drop s.n)) := upd_same
        have n3R : p3 ≠ R := (ne_of_none hR7 hp3).symm
        have n3a : p3 ≠ a1 := (ne_of_none h17 hp3).symm
        have n3D : p3 ≠ D := (ne_of_none hD7 hp3).symm
        generalize upd H7 p3 (.lst (zs.drop s.n)) = H8 at s8 hp8
        have hR8 := s8 _ _ hR7
        refine ⟨_, rfl, R, _, _, 0, rfl, rfl, hR8, rfl, ?_⟩
        have st9 : ∀ b o, b ≠ R → H8 b = some o → upd H8 R (.lst [.ref p3, .ref a1]) b = some o := fun b o n e => by rw [upd_ne n]; exact e
        have hR9 : upd H8 R (.lst [.ref p3, .ref a1]) R = some (.lst [.ref p3, .ref a1]) := upd_same
        rw [show ([V.ref a0, V.ref a1] : List V).set 0 (.ref p3) = [.ref p3, .ref a1] from rfl]
        generalize upd H8 R (.lst [.ref p3, .ref a1]) = H9 at st9 hR9
        have h19 := st9 _ _ nRa.symm (s8 _ _ h17)
        refine ⟨_, rfl, R, _, 1, _, rfl, rfl, SqL.of hR9, rfl, .inl ⟨rfl, _, SqL.of h19⟩, _, rfl, a1, _, _, rfl, rfl, h19, ?_, ?_⟩
        · rw [List.length_map]
          exact Nat.lt_of_le_of_lt (by omega : _ ≤ 2000) (by decide)
        have e1 : (es.length : Int) + ((1 : Nat) : Int) = ((es.length + 1 : Nat) : Int) := by omega
        have stA : ∀ b o, b ≠ a1 → H9 b = some o → upd H9 a1 (.lst (ns.map V.int ++ [.int ((es.length : Int) + ((1 : Nat) : Int))])) b = some o := fun b o n e => by rw [upd_ne n]; exact e
        have h1A : upd H9 a1 (.lst (ns.map V.int ++ [.int ((es.length : Int) + ((1 : Nat) : Int))])) a1 = some (.lst (ns.map V.int ++ [.int ((es.length : Int) + ((1 : Nat) : Int))])) := upd_same
        refine ⟨_, rfl, _, rfl, by show 2 ≤ sizeLine; decide, fun tt htt => ?_⟩
        generalize upd H9 a1 (.lst (ns.map V.int ++ [.int ((es.length : Int) + ((1 : Nat) : Int))])) = HA at stA h1A htt
        have sB : Same HA (upd HA tt (.tup [.int ((es.length : Int) + ((1 : Nat) : Int)), .ref f])) := same_new htt
        have httB : upd HA tt (.tup [.int ((es.length : Int) + ((1 : Nat) : Int)), .ref f]) tt = some (.tup [.int ((es.length : Int) + ((1 : Nat) : Int)), .ref f]) := upd_same
        generalize upd HA tt (.tup [.int ((es.length : Int) + ((1 : Nat) : Int)), .ref f]) = HB at sB httB
        have fr : ∀ b o, b ≠ R → b ≠ a1 → b ≠ D → H6 b = some o → HB b = some o := fun b o m1 m2 m3 e => sB _ _ (stA _ _ m2 (st9 _ _ m1 (s8 _ _ (st7 _ _ m3 e))))
        have hR6 := s36 _ _ hR3
        have h16 := s36 _ _ h13
        have k6 : Keep H6 HB := ⟨fun b u tu e => fr b u (fun z => by rw [z, hR6] at e; cases e; cases tu) (fun z => by rw [z, h16] at e; cases e; cases tu) (fun z => by rw [z, hD6] at e; cases e; cases tu) e⟩
        have fr3 : H p3 = none := by
          cases c : H p3 with
          | none => rfl
          | some o => exact nomatch (st7 _ _ n3D (s36 _ _ (s03 _ _ c))).symm.trans hp3
        refine kq HB tt f p3 [(.inl ((es.length + 1 : Nat) : Int), .ref t)] (fun b o m1 m2 m3 e => fr b o m1 m2 m3 (s36 _ _ (s03 _ _ e))) (sB _ _ (stA _ _ nRa hR9)) n3R n3a (.inr fr3) (sB _ _ (stA _ _ n3a (st9 _ _ n3R hp8))) ?_ (sB _ _ (stA _ _ naD.symm (st9 _ _ nRD.symm (s8 _ _ hD7)))) (.cons ⟨rfl, t, q, rfl, k6 _ _ ht6, zs.take s.n, (FzT.same s6 hq5).keep k6, ?_⟩ .nil) ?_ fH (fr _ _ nfR nfa nfD (s36 _ _ hf3))
        · rw [sB _ _ h1A, List.map_append, e1]
          rfl
        · exact paired_take _ (paired_imp (fun _ _ r => PrAt.keep ((Keep.of s36).trans k6) r) hz3)
        · rw [httB, e1]
      | succ l =>
        obtain ⟨a, xs, rfl, ha, hx⟩ := hs3
        obtain ⟨w1, w2, w3⟩ := wf
        refine ⟨_, rfl, _, _, .type "tuple", .type "int", false, rfl, .ty "int", .base (.tup ha), kit_ty (by decide +kernel), false, rfl, ?_⟩
        refine iteF ?_
        refine ⟨_, rfl, _, rfl, D, _, rfl, DPut.k (k := .inl ((es.length + 1 : Nat) : Int)) hD3 (Nat.lt_of_le_of_lt (by omega : es.length ≤ 2000) (by decide)), ?_⟩
        rw [putK_new (low.ne (Nat.le_refl _))]
        have st4 : ∀ b o, b ≠ D → H3 b = some o → upd H3 D (.dK (es ++ [(.inl ((es.length + 1 : Nat) : Int), .non)])) b = some o := fun b o n e => by rw [upd_ne n]; exact e
        have hD4 : upd H3 D (.dK (es ++ [(.inl ((es.length + 1 : Nat) : Int), .non)])) D = some (.dK (es ++ [(.inl ((es.length + 1 : Nat) : Int), .non)])) := upd_same
        have k34 : Keep H3 (upd H3 D (.dK (es ++ [(.inl ((es.length + 1 : Nat) : Int), .non)]))) := (Keep.refl _).upd fun u e => by rw [hD3] at e; cases e; rfl
        generalize upd H3 D (.dK (es ++ [(.inl ((es.length + 1 : Nat) : Int), .non)])) = H4 at st4 hD4 k34
        have ha4 := k34 _ _ ha
        refine ⟨_, rfl, a, rfl, ⟨_, SqT.of ha4⟩, fun L hL => ?_⟩
        have s5 : Same H4 (upd H4 L (.lst [])) := same_new hL
        have hL5 : upd H4 L (.lst []) L = some (.lst []) := upd_same
        have hR4 := st4 _ _ nRD hR3
        have h04 := st4 _ _ n0D h03
        have h14 := st4 _ _ naD h13
        have hf4 := st4 _ _ nfD hf3
        have nRL : R ≠ L := ne_of_none hR4 hL
        have naL : a1 ≠ L := ne_of_none h14 hL
        have n0L : a0 ≠ L := ne_of_none h04 hL
        have nDL : D ≠ L := ne_of_none hD4 hL
        have nfL : f ≠ L := ne_of_none hf4 hL
        have k03 : Keep H H4 := (Keep.of s03).trans k34
        obtain ⟨H5, hH5⟩ : ∃ H5, upd H4 L (.lst []) = H5 := ⟨_, rfl⟩
        rw [hH5] at s5 hL5
        have hx5 : Paired (ShAt H5 l) xs s.ks := paired_imp (fun _ _ r => ShAt.keep (k34.trans (Keep.of s5)) r) hx
        have hz5 : Paired (PrAt H5) zs ps := paired_imp (fun _ _ r => PrAt.keep (k34.trans (Keep.of s5)) r) hz3
        have hR5 := s5 _ _ hR4
        have h15 := s5 _ _ h14
        have hD5 := s5 _ _ hD4
        have hf5 := s5 _ _ hf4
        have kO : ∀ {H' : Hp}, (∀ b o, b ≠ R → b ≠ a1 → b ≠ D → b ≠ L → H5 b = some o → H' b = some o) → Keep H5 H' := fun st => ⟨fun b u tu e => st b u (fun z => by rw [z, hR5] at e; cases e; cases tu) (fun z => by rw [z, h15] at e; cases e; cases tu) (fun z => by rw [z, hD5] at e; cases e; cases tu) (fun z => by rw [z, hL5] at e; cases e; cases tu) e⟩
        generalize hK : setKids (setT l) s.ks (es.length + 1) (ps.take (cntS (l + 1) s)) = kids
        refine lc_it (walk_tup (xs := xs)) (fun j H' => ∃ (b0 : Addr) (es' : List (Key × V)) (ts : List Addr), (∀ b o, b ≠ R → b ≠ a1 → b ≠ D → b ≠ L → H5 b = some o → H' b = some o) ∧ H' R = some (.lst [.ref b0, .ref a1]) ∧ b0 ≠ R ∧ b0 ≠ a1 ∧ b0 ≠ L ∧ (b0 = a0 ∨ H b0 = none) ∧
          H' b0 = some (.lst (zs.drop ((s.ks.take j).map (cntS l)).sum)) ∧ H' a1 = some (.lst ((ns ++ (kids.take j).flatMap (lvs l)).map V.int)) ∧ H' D = some (.dK (es ++ (.inl ((es.length + 1 : Nat) : Int), .non) :: es')) ∧ Paired (EnAt H') es' (nb (es.length + 1) ((kids.take j).flatMap (pre l))) ∧
          H' L = some (.lst (ts.map V.ref)) ∧ Paired (GAt R a1 D L l H') ts (kids.take j)) (by rw [hH5]; exact ⟨a0, [], [], fun _ _ _ _ _ _ e => e, hR5, nR, n1, n0L, .inl rfl, s5 _ _ h04, by rw [List.take_zero, List.flatMap_nil, List.append_nil]; exact h15, hD5, .nil, hL5, .nil⟩) (fun j H' _ z => by
            obtain ⟨_, _, _, st, _⟩ := z
            exact SqT.of (kO st _ _ (s5 _ _ ha4))) ?_ ?_
        · rintro j x H6 H7 hj ⟨b0, es', ts, st6, hR6, m1, m2, m3, m4, hb6, h16, hD6, he6, hL6, hg6⟩ ⟨rfl, hxj⟩
          obtain ⟨k, hk, hkx⟩ := pget1 hx5 hxj
          have mk := List.mem_of_getElem? hk
          refine ⟨rfl, ?_⟩
          dsimp only [tYes]
          rw [if_pos rfl]
          have elen : es'.length = ((s.ks.take j).map (pgsS l)).sum := by
            have z := he6.length
            rw [nb_len, ← hK, setKids_take, setKids_plen] at z
            exact z
          have hpgs := sum_part1 (pgsS l) hk
          have hcnt := sum_part1 (cntS l) hk
          have few' : (s.ks.map (cntS l)).sum ≤ ps.length := few
          have efew' : es.length + (1 + (s.ks.map (pgsS l)).sum) ≤ 2000 := efew
          have elvs : ((kids.take j).flatMap (lvs l)).length ≤ ((s.ks.take j).map (pgsS l)).sum := by
            rw [← hK, setKids_take]
            exact setKids_lvs
          have hkat := setKids_at (f := setT l) (a := es.length + 1) (ps := ps.take (cntS (l + 1) s)) hk
          rw [hK] at hkat
          have eps : ((ps.take (cntS (l + 1) s)).drop ((s.ks.take j).map (cntS l)).sum).take (cntS l k) = (ps.drop ((s.ks.take j).map (cntS l)).sum).take (cntS l k) := by
            rw [List.drop_take, List.take_take, Nat.min_eq_left (by show _ ≤ (s.ks.map (cntS l)).sum - _; omega)]
          rw [eps] at hkat
          have lcur : (es ++ ((.inl ((es.length + 1 : Nat) : Int), V.non) : Key × V) :: es').length = es.length + 1 + ((s.ks.take j).map (pgsS l)).sum := by
            rw [List.length_append, List.length_cons, elen]
            omega
          have lowc : Low (es ++ ((.inl ((es.length + 1 : Nat) : Int), V.non) : Key × V) :: es').length (es ++ ((.inl ((es.length + 1 : Nat) : Int), V.non) : Key × V) :: es') := by
            refine (low.le (by rw [lcur]; omega)).app fun e he => ?_
            rcases List.mem_cons.mp he with rfl | he
            · exact ⟨es.length, by rw [lcur]; omega, rfl⟩
            · have z := (en_low he6).le (m := (es ++ ((.inl ((es.length + 1 : Nat) : Int), V.non) : Key × V) :: es').length) (by
                rw [lcur, ← hK, setKids_take, setKids_plen]
                exact Nat.le_refl _)
              exact z e he
          have k57 := kO st6
          have tslen : ts.length ≤ 8 := by
            have z := hg6.length
            rw [List.length_take, ← hK, setKids_len] at z
            omega
          refine ⟨_, rfl, _, rfl, _, rfl, x, room, false, l, k, R, D, b0, a1, ps.drop ((s.ks.take j).map (cntS l)).sum, zs.drop ((s.ks.take j).map (cntS l)).sum, _, _, rfl, by omega, by omega, r3, r8, w3 k mk, ShAt.keep k57 hkx, hR6, m1, m2, hb6, paired_drop _ (paired_imp (fun _ _ r => PrAt.keep k57 r) hz5), by rw [List.length_drop]; omega, by rw [List.length_drop]; omega, h16, hD6, lowc, by rw [lcur]; omega, by rw [lcur, List.length_append]; omega, fun H8 t f2 b1 es2 fr8 hR8 q1 q2 q3 hb8 h18 hD8 he8 ht8 hf2 hf8 => ?_⟩
          rw [lcur] at h18 he8 ht8
          have fne : ∀ {o : HO} {b : Addr}, H7 b = some o → f2 ≠ b := fun e z => by rw [z, e] at hf2; cases hf2
          have hL8 := fr8 _ _ nRL.symm naL.symm nDL.symm hL6
          have bL : b1 ≠ L := by
            rcases q3 with z | z
            · rw [z]
              exact m3
            · intro e
              rw [e, hL6] at z
              cases z
          have k78 : Keep H7 H8 := ⟨fun b u tu e => fr8 b u (fun z => by rw [z, hR6] at e; cases e; cases tu) (fun z => by rw [z, h16] at e; cases e; cases tu) (fun z => by rw [z, hD6] at e; cases e; cases tu) e⟩
          have st9 : ∀ b o, b ≠ L → H8 b = some o → upd H8 L (.lst (ts.map V.ref ++ [.ref t])) b = some o := fun b o n e => by rw [upd_ne n]; exact e
          have k89 : Keep H8 (upd H8 L (.lst (ts.map V.ref ++ [.ref t]))) := (Keep.refl _).upd fun u e => by rw [hL8] at e; cases e; rfl
          have hL9 : upd H8 L (.lst (ts.map V.ref ++ [.ref t])) L = some (.lst (ts.map V.ref ++ [.ref t])) := upd_same
          refine ⟨ts.map V.ref, hL8, by rw [List.length_map]; exact Nat.lt_of_le_of_lt tslen (by decide), ?_⟩
          generalize upd H8 L (.lst (ts.map V.ref ++ [.ref t])) = H9 at st9 k89 hL9
          refine ⟨b1, es' ++ es2, ts ++ [t], ?_, st9 _ _ nRL hR8, q1, q2, bL, ?_, ?_, ?_, ?_, ?_, ?_, ?_⟩
          · intro b o n1 n2 n3 n4 e
            exact st9 _ _ n4 (fr8 _ _ n1 n2 n3 (st6 _ _ n1 n2 n3 n4 e))
          · rcases q3 with z | z
            · rw [z]
              exact m4
            · refine .inr ?_
              cases c : H b1 with
              | none => rfl
              | some o =>
                have n3 : b1 ≠ D := fun e => by rw [e, hD6] at z; cases z
                have y := st6 _ _ q1 q2 n3 bL (s5 _ _ (st4 _ _ n3 (s03 _ _ c)))
                rw [y] at z
                cases z
          · rw [st9 _ _ bL hb8, List.drop_drop, sum_more (cntS l) hk]
          · rw [st9 _ _ naL h18, take_more hkat, List.flatMap_append, List.flatMap_cons, List.flatMap_nil, List.append_nil, List.append_assoc]
          · rw [st9 _ _ nDL hD8, List.append_assoc, List.cons_append]
          · have pl : ((kids.take j).flatMap (pre l)).length = ((s.ks.take j).map (pgsS l)).sum := by rw [← hK, setKids_take, setKids_plen]
            rw [take_more hkat, List.flatMap_append, List.flatMap_cons, List.flatMap_nil, List.append_nil, nb_app, pl]
            exact paired_app (paired_imp (fun _ _ (r : EnAt H7 _ _) => (⟨r.1, r.2.keep (k78.trans k89)⟩ : EnAt H9 _ _)) he6) (paired_imp (fun _ _ (r : EnAt H8 _ _) => (⟨r.1, r.2.keep k89⟩ : EnAt H9 _ _)) he8)
          · rw [hL9, List.map_append]
            rfl
          · have ck := cnt_pos r3 (w3 k mk)
            obtain ⟨pt, rest, ept⟩ : ∃ pt rest, ps.drop ((s.ks.take j).map (cntS l)).sum = pt :: rest := by
              cases c : ps.drop ((s.ks.take j).map (cntS l)).sum with
              | nil =>
                have z := congrArg List.length c
                rw [List.length_drop, List.length_nil] at z
                omega
              | cons p r => exact ⟨p, r, rfl⟩
            rw [take_more hkat]
            refine paired_snoc ⟨f2, ?_, ?_, fne hR6, fne h16, fne hD6, fne hL6⟩ (paired_imp (fun t kd r => ?_) hg6)
            · obtain ⟨f', g1, g2, n1, n2, n3, n4⟩ := r
              exact ⟨f', (k78.trans k89) _ _ g1, st9 _ _ n4 (fr8 _ _ n1 n2 n3 g2), n1, n2, n3, n4⟩
            · rw [k89 _ _ ht8, set_num]
            · rw [st9 _ _ (fne hL6) hf8, set_prs (by rw [List.length_take, List.length_drop]; omega), ept]
              obtain ⟨c, ec⟩ : ∃ c, cntS l k = c + 1 := ⟨cntS l k - 1, by omega⟩
              rw [ec]
              rfl
        · rintro H6 ⟨b0, es', ts, st6, hR6, m1, m2, m3, m4, hb6, h16, hD6, he6, hL6, hg6⟩
          have xl := hx5.length
          have klen : kids.length = s.ks.length := by rw [← hK, setKids_len]
          rw [xl, List.take_length] at hb6
          rw [xl, ← klen, List.take_length] at h16 he6 hg6
          have tl := hg6.length
          have hf6 := st6 _ _ nfR nfa nfD nfL hf5
          refine ⟨_, rfl, 1, rfl, L, _, rfl, SqL.of hL6, fun p6 hp6 => ?_⟩
          rw [show (1 : Int) = ((1 : Nat) : Int) from rfl, cut_from', ← List.map_drop]
          have s7 : Same H6 (upd H6 p6 (.lst ((ts.drop 1).map V.ref))) := same_new hp6
          have hp7 : upd H6 p6 (.lst ((ts.drop 1).map V.ref)) p6 = some (.lst ((ts.drop 1).map V.ref)) := upd_same
          generalize upd H6 p6 (.lst ((ts.drop 1).map V.ref)) = H7 at s7 hp7
          refine ⟨p6, rfl, ⟨_, SqL.of hp7⟩, fun L2 hL2 => ?_⟩
          have hg7 : Paired (GAt R a1 D L l H6) (ts.drop 1) (kids.drop 1) := paired_drop 1 hg6
          refine lc_it (walk_list (xs := (ts.drop 1).map V.ref)) (fun j H' => Same H7 H' ∧ H' L2 = some (.lst ((((kids.drop 1).take j).map fun k => frs (prs l k)).map V.int))) ⟨same_new hL2, upd_same⟩ (fun j H' _ z => SqL.of (z.1 _ _ hp7)) ?_ ?_
          · rintro j x H8 H9 hj ⟨s8, hL8⟩ ⟨rfl, hx⟩
            obtain ⟨t, ht, rfl⟩ := map_at hx
            obtain ⟨k, hk, f', g1, g2, _⟩ := pget1 hg7 ht
            refine ⟨rfl, ?_⟩
            dsimp only [tYes]
            rw [if_pos rfl]
            refine ⟨_, rfl, t, _, 1, _, rfl, rfl, SqT.of (s8 _ _ (s7 _ _ g1)), rfl, f', _, 0, _, rfl, rfl, SqL.of (s8 _ _ (s7 _ _ g2)), rfl, _, hL8, ?_, same_upd s8 hL2, ?_⟩
            · rw [List.length_map, List.length_map, List.length_take, List.length_drop]
              exact Nat.lt_of_le_of_lt (by omega : _ ≤ 8) (by decide)
            · rw [upd_same, take_more hk, List.map_append, List.map_append]
              rfl
          rintro H8 ⟨s8, hL8⟩
          rw [List.take_of_length_le (by rw [List.length_map, List.length_drop, List.length_drop, tl]; exact Nat.le_refl _), List.map_drop] at hL8
          refine ⟨L2, _, rfl, .inl ⟨SqL.of hL8, fun q1 hq1 => ?_⟩⟩
          have s9 : Same H8 (upd H8 q1 (.tup (((kids.map fun k => frs (prs l k)).drop 1).map V.int))) := same_new hq1
          have hq9 : upd H8 q1 (.tup (((kids.map fun k => frs (prs l k)).drop 1).map V.int)) q1 = some (.tup (((kids.map fun k => frs (prs l k)).drop 1).map V.int)) := upd_same
          generalize upd H8 q1 (.tup (((kids.map fun k => frs (prs l k)).drop 1).map V.int)) = H9 at s9 hq9
          have s69 := (s7.trans s8).trans s9
          refine ⟨_, rfl, _, rfl, L, rfl, ⟨_, SqL.of (s69 _ _ hL6)⟩, fun L3 hL3 => ?_⟩
          refine lc_it (walk_list (xs := ts.map V.ref)) (fun j H' => Same H9 H' ∧ H' L3 = some (.lst (((kids.take j).map (num l)).map V.int))) ⟨same_new hL3, upd_same⟩ (fun j H' _ z => SqL.of (z.1 _ _ (s69 _ _ hL6))) ?_ ?_
          · rintro j x HA HB hj ⟨sA, hLA⟩ ⟨rfl, hx⟩
            obtain ⟨t, ht, rfl⟩ := map_at hx
            obtain ⟨k, hk, f', g1, _⟩ := pget1 hg6 ht
            refine ⟨rfl, ?_⟩
            dsimp only [tYes]
            rw [if_pos rfl]
            refine ⟨_, rfl, t, _, 0, _, rfl, rfl, SqT.of (sA _ _ (s69 _ _ g1)), rfl, _, hLA, ?_, same_upd sA hL3, ?_⟩
            · rw [List.length_map, List.length_map, List.length_take]
              exact Nat.lt_of_le_of_lt (by omega : _ ≤ 8) (by decide)
            · rw [upd_same, take_more hk, List.map_append, List.map_append]
              rfl
          rintro HA ⟨sA, hLA⟩
          rw [List.length_map, tl, List.take_length] at hLA
          refine ⟨L3, _, rfl, SqL.of hLA, fun q2 o2 hq2 ho2 => ?_⟩
          have sB : Same HA (upd HA q2 (.frz o2 (.tup ((kids.map (num l)).map V.int)))) := same_new hq2
          have hqB : FzT (upd HA q2 (.frz o2 (.tup ((kids.map (num l)).map V.int)))) q2 ((kids.map (num l)).map V.int) := ⟨o2, upd_same, ho2⟩
          generalize upd HA q2 (.frz o2 (.tup ((kids.map (num l)).map V.int))) = HB at sB hqB
          refine ⟨by show 3 ≤ sizeLine; decide, fun tn htn => ?_⟩
          have sC : Same HB (upd HB tn (.tup [.str "node", .ref q1, .ref q2])) := same_new htn
          have htC : upd HB tn (.tup [.str "node", .ref q1, .ref q2]) tn = some (.tup [.str "node", .ref q1, .ref q2]) := upd_same
          generalize upd HB tn (.tup [.str "node", .ref q1, .ref q2]) = HC at sC htC
          have s9C := (sA.trans sB).trans sC
          have s6C := s69.trans s9C
          have hDC := s6C _ _ hD6
          have elen : es'.length = (s.ks.map (pgsS l)).sum := by
            have z := he6.length
            rw [nb_len, ← hK, setKids_plen] at z
            exact z
          have efew' : es.length + (1 + (s.ks.map (pgsS l)).sum) ≤ 2000 := efew
          refine ⟨_, rfl, _, rfl, D, _, rfl, DPut.k (k := .inl ((es.length + 1 : Nat) : Int)) hDC (Nat.lt_of_le_of_lt (by rw [List.length_append, List.length_cons]; omega : _ ≤ 2000) (by decide)), ?_⟩
          rw [putK_mid (low.ne (Nat.le_refl _)) (fun e he z => by
            obtain ⟨i, _, h2⟩ := en_keys he6 e he
            rw [h2] at z
            injection z with z
            omega)]
          have stD : ∀ b o, b ≠ D → HC b = some o → upd HC D (.dK (es ++ (.inl ((es.length + 1 : Nat) : Int), .ref tn) :: es')) b = some o := fun b o n e => by rw [upd_ne n]; exact e
          have hDD : upd HC D (.dK (es ++ (.inl ((es.length + 1 : Nat) : Int), .ref tn) :: es')) D = some (.dK (es ++ (.inl ((es.length + 1 : Nat) : Int), .ref tn) :: es')) := upd_same
          have kCD : Keep HC (upd HC D (.dK (es ++ (.inl ((es.length + 1 : Nat) : Int), .ref tn) :: es'))) := (Keep.refl _).upd fun u e => by rw [hDC] at e; cases e; rfl
          generalize upd HC D (.dK (es ++ (.inl ((es.length + 1 : Nat) : Int), .ref tn) :: es')) = HD at stD hDD kCD
          refine ⟨_, rfl, _, rfl, by show 2 ≤ sizeLine; decide, fun tt htt => ?_⟩
          have sE : Same HD (upd HD tt (.tup [.int ((es.length : Int) + ((1 : Nat) : Int)), .ref f])) := same_new htt
          have htE : upd HD tt (.tup [.int ((es.length : Int) + ((1 : Nat) : Int)), .ref f]) tt = some (.tup [.int ((es.length : Int) + ((1 : Nat) : Int)), .ref f]) := upd_same
          generalize upd HD tt (.tup [.int ((es.length : Int) + ((1 : Nat) : Int)), .ref f]) = HE at sE htE
          have kCE := kCD.trans (Keep.of sE)
          have b0D : b0 ≠ D := fun e => by rw [e, hD6] at hb6; cases hb6
          have eset : setT (l + 1) s es.length (ps.take (cntS (l + 1) s)) = ndT ((es.length + 1 : Nat) : Int) ((kids.map fun k => frs (prs l k)).drop 1) kids := by rw [← hK]; rfl
          refine kq HE tt f b0 ((.inl ((es.length + 1 : Nat) : Int), .ref tn) :: es') (fun b o n1 n2 n3 e => ?_) (sE _ _ (stD _ _ nRD (s6C _ _ hR6))) m1 m2 m4 (sE _ _ (stD _ _ b0D (s6C _ _ hb6))) ?_ (sE _ _ hDD) ?_ ?_ fH (sE _ _ (stD _ _ nfD (s6C _ _ hf6)))
          · have e4 := st4 _ _ n3 (s03 _ _ e)
            have nL : b ≠ L := ne_of_none e4 hL
            exact sE _ _ (stD _ _ n3 (s6C _ _ (st6 _ _ n1 n2 n3 nL (s5 _ _ e4))))
          · rw [sE _ _ (stD _ _ naD (s6C _ _ h16)), eset]
            rfl
          · rw [eset]
            exact .cons ⟨rfl, tn, q1, q2, rfl, kCE _ _ htC, kCE _ _ (s9C _ _ hq9), (FzT.same sC hqB).keep kCE⟩ (paired_imp (fun _ _ (r : EnAt H6 _ _) => (⟨r.1, r.2.keep ((Keep.of s6C).trans kCE)⟩ : EnAt HE _ _)) he6)
          · exact htE.trans (congrArg (fun z => some (HO.tup [V.int z, V.ref f])) (by omega))
end
end K30

namespace K30
open PySem PySem.Spec PyProof.Rows L2 RZ HX TR RP EQT
/-- pages that lie as a tree set down, leaves linked -/
theorem tree_set {room l : Nat} {s : Sh l} {ps : List (Int × Int)} {S : List (Int × Pg)} (r3 : 3 ≤ room) (r8 : room ≤ 8) (w : WfSh room l true s) (e : ps.length = cntS l s) (u : Up ps) (good : ∀ q ∈ ps, 0 ≤ q.1 ∧ q.1 ≤ 1000000000 ∧ 0 ≤ q.2 ∧ q.2 ≤ 1000000000) (few : pgsS l s ≤ 1000)
    (pk : (S.map (·.1)).Perm (nums l (setT l s 0 ps))) (srt : S.Pairwise fun a b => a.1 < b.1) (laid : Laid S l (setT l s 0 ps)) (nxt : NextOk S (lvs l (setT l s 0 ps)) (lvs l (setT l s 0 ps)).length) : TR.Tree room l (setT l s 0 ps) S := by
  have h := set_tree r3 r8 w e u good few
  exact ⟨h.r3, h.r8, h.wf, h.nodup, h.range, pk, srt, laid, nxt, h.keyB, h.keyOk, h.rising, h.good, h.few⟩
theorem nb_laid {l : Nat} {s : Sh l} {ps : List (Int × Int)} : Laid (nb 0 (pre l (setT l s 0 ps))) l (setT l s 0 ps) := by
  have nd : ((nb 0 (pre l (setT l s 0 ps))).map (·.1)).Nodup := by
    rw [nb_nums]
    exact List.nodup_iff_pairwise_ne.mpr (runN_nodup.imp fun h z => by omega)
  refine pre_at fun i g hg => ⟨g, mem_lkp nd (nb_at hg), ?_⟩
  cases g with
  | leaf qs nx => exact ⟨nx, rfl⟩
  | node ks kd => rfl
section
variable {P : Program} {w : World} {K : PySem.W.Frag} {mg : Str → Option Value} {base : Heap}
def sp_law_due : Sp := fun vs H Q _ => ∃ (v : V) (room l : Nat) (s : Sh l) (pr : Addr) (ps : List (Int × Int)), vs = [v, .ref pr, .int (room : Int)] ∧ TwT room l s ps ∧ ShAt H l v s ∧ PrT H pr ps ∧
  ∀ (H' : Hp) (v' : V), Same H H' → SndAt H' v' room l (setT l s 0 ps) (lnk 0 (pre l (setT l s 0 ps))).1 → Q v' H'
theorem ok_law_due (T : TX K mg) : FnOk P w K mg base CX0 11 (He.ga K "_law_due") T.fd_law_due ["shape", "pairs", "space"] sp_law_due := by
  have G_law_grown : FnOk P w K mg base CX0 10 (He.ga K "_law_grown") T.fd_law_grown ["shape", "rest", "pages"] (sp_law_grown 9) := ok_law_grown T 9
  have b_law_grown := b_law_grown T
  refine T.F_law_due.ok sc_law_due (fun vs H Q E h => ?_) (fun cdv A outer st H vs Q E hr h => ?_)
  · obtain ⟨v, room, l, s, pr, ps, rfl, _⟩ := h
    rfl
  · obtain ⟨v, room, l, s, pr, ps, rfl, ⟨l8, r3, r8, wf, e, few, good, up⟩, hs, hpr, kq⟩ := h
    refine ⟨_, PSs.nox (pss_cons (ps_set (i := 3) sc_law_due.nd rfl (Or.inl rfl) pe_dnewK)
 (pss_cons (ps_set (i := 4) sc_law_due.nd rfl (Or.inl rfl) (pe_lst (pa_cons (pe_callTy call_list_of rfl T.n_list (by decide +kernel) (pa_cons (pv 1) pa_nil)) (pa_cons (pe_lst pa_nil) pa_nil))))
 (pss_cons (ps_expr (pe_call G_law_grown (hr.mono (by first | decide | omega)) rfl T.g_law_grown T.F_law_grown.kp b_law_grown .nil pass0 (pa_cons (pv 0) (pa_cons (pv 4) (pa_cons (pv 3) pa_nil)))))
 (pss_cons (ps_for PassesOwn.never rfl (pi_zipA rfl T.n_zip (pa_cons (pe_ix ix_list (pv 4) pe_int (fun _ _ => rfl)) (pa_cons (pe_op op_cat (pe_slice sl_list (pe_ix ix_list (pv 4) pe_int (fun _ _ => rfl)) (po_some pe_int) po_none) (pe_lst (pa_cons pe_int pa_nil))) pa_nil))) (pg_tup rfl (pgs_cons (pg_name (i := 5) sc_law_due.nd rfl (Or.inl rfl)) (pgs_cons (pg_name (i := 6) sc_law_due.nd rfl (Or.inl rfl)) pgs_nil)))
 (pss_one (ps_dput (hu_of hr) (pv 3) (pv 5) (pe_op op_catA (pe_slice sl_tupA (pe_dget (hu_of hr) (pv 3) (pv 5) (fun _ _ => rfl)) po_none (po_some pe_int)) (pe_tup (pa_cons (pv 6) pa_nil))) rfl)))
 (pss_one (ps_ret (pe_tup (pa_cons (pv 2) (pa_cons pe_int (pa_cons (pe_callTy RU.call_tupF rfl T.n_tuple (by decide +kernel) (pa_cons (pe_callB (HS.cr_sortedItK rfl) rfl T.n_sorted (by decide +kernel) (pa_cons (pe_bm0 PySem.F.plainAttrs_dict PySem.F.slot_dict_items PySem.F.type_dict_items HS.mt_itemsK (pv 3)) pa_nil)) pa_nil)) pa_nil)))))))))), ?_⟩
    refine fun D hDn => ?_
    have s1 : Same H (upd H D (.dK [])) := same_new hDn
    have hD1 : upd H D (.dK []) D = some (.dK []) := upd_same
    generalize upd H D (.dK []) = H1 at s1 hD1
    obtain ⟨zs, hza, hzp⟩ := PrT.same s1 hpr
    refine ⟨_, rfl, pr, _, rfl, .inr hza.sq, fun a0 h0n => ?_⟩
    have s2 : Same H1 (upd H1 a0 (.lst zs)) := same_new h0n
    have h02 : upd H1 a0 (.lst zs) a0 = some (.lst zs) := upd_same
    generalize upd H1 a0 (.lst zs) = H2 at s2 h02
    refine ⟨Nat.zero_le _, fun a1 h1n => ?_⟩
    have s3 : Same H2 (upd H2 a1 (.lst [])) := same_new h1n
    have h13 : upd H2 a1 (.lst []) a1 = some (.lst []) := upd_same
    have n01 : a0 ≠ a1 := ne_of_none h02 h1n
    generalize upd H2 a1 (.lst []) = H3 at s3 h13
    refine ⟨by show 2 ≤ sizeLine; decide, fun R hRn => ?_⟩
    have s4 : Same H3 (upd H3 R (.lst [.ref a0, .ref a1])) := same_new hRn
    have hR4 : upd H3 R (.lst [.ref a0, .ref a1]) R = some (.lst [.ref a0, .ref a1]) := upd_same
    have n0R : a0 ≠ R := ne_of_none (s3 _ _ h02) hRn
    have n1R : a1 ≠ R := ne_of_none h13 hRn
    generalize upd H3 R (.lst [.ref a0, .ref a1]) = H4 at s4 hR4
    have s24 := (s2.trans s3).trans s4
    have hD4 := s24 _ _ hD1
    have h14 := s4 _ _ h13
    have nDR : D ≠ R := ne_of_none ((s2.trans s3) _ _ hD1) hRn
    have nD1 : D ≠ a1 := ne_of_none (s2 _ _ hD1) h1n
    have s04 := s1.trans s24
    have hz4 : Paired (PrAt H4) zs ps := paired_imp (fun _ _ r => PrAt.keep (Keep.of s24) r) hzp
    have pg1 := pgs_cnt1 r3 wf
    refine ⟨_, rfl, _, rfl, _, rfl, v, room, true, l, s, R, D, a0, a1, ps, zs, [], [], rfl, by omega, l8, r3, r8, wf, ShAt.keep (Keep.of s04) hs, hR4, n0R, n01, (s3.trans s4) _ _ h02, hz4, by omega, by omega, h14, hD4, (fun e he => nomatch he), by show 0 + pgsS l s ≤ 2000; omega, Nat.le_refl _, fun H5 t f b0 es fr hR5 m1 m2 m3 hb5 h15 hD5 he5 ht5 hf4 hf5 => ?_⟩
    have eall : ps.take (cntS l s) = ps := List.take_of_length_le (by omega)
    rw [eall] at h15 he5
    rw [List.nil_append] at h15 hD5
    have z0 : ([] : List (Key × V)).length = 0 := rfl
    rw [z0] at h15 he5
    generalize hT : setT l s 0 ps = tr at h15 he5
    have hnum : num l tr = 1 := by rw [← hT, set_num]; rfl
    have hns : nums l tr = runN 0 (pgsS l s) := by rw [← hT, set_nums]
    have f05 : Same H H5 := fun b o eb => by
      have n1 : b ≠ R := fun z => by rw [z] at eb; exact nomatch ((s1.trans (s2.trans s3)) _ _ eb).symm.trans hRn
      have n2 : b ≠ a1 := fun z => by rw [z] at eb; exact nomatch ((s1.trans s2) _ _ eb).symm.trans h1n
      have n3 : b ≠ D := fun z => by rw [z] at eb; exact nomatch eb.symm.trans hDn
      exact fr b o n1 n2 n3 (s04 _ _ eb)
    have hLl : (lvs l tr).length ≤ 1000 := by
      have z := lvs_len (l := l) (t := tr)
      rw [hns] at z
      unfold runN at z
      rw [List.length_map, List.length_range] at z
      omega
    have hdd : DctAt H5 D (nb 0 (pre l tr)) := ⟨es, hD5, he5⟩
    have laidD : Laid (nb 0 (pre l tr)) l tr := by rw [← hT]; exact nb_laid
    have ndl : (lvs l tr).Nodup := by
      have z : (runN 0 (pgsS l s)).Nodup := List.nodup_iff_pairwise_ne.mpr (runN_nodup.imp fun h z => by omega)
      rw [← hns] at z
      exact z.sublist lvs_sub
    refine ⟨_, rfl, R, _, 1, _, rfl, rfl, SqL.of hR5, rfl, _, rfl, R, _, 1, _, rfl, rfl, SqL.of hR5, rfl, 1, rfl, a1, _, rfl, SqL.of h15, fun q1 hq1 => ?_⟩
    have ecut : cutV ((lvs l tr).map V.int) (some 1) none = ((lvs l tr).drop 1).map V.int := by
      rw [List.map_drop]
      exact cut_from' (n := 1)
    rw [ecut]
    have s6 : Same H5 (upd H5 q1 (.lst (((lvs l tr).drop 1).map V.int))) := same_new hq1
    have hq16 : upd H5 q1 (.lst (((lvs l tr).drop 1).map V.int)) q1 = some (.lst (((lvs l tr).drop 1).map V.int)) := upd_same
    generalize upd H5 q1 (.lst (((lvs l tr).drop 1).map V.int)) = H6 at s6 hq16
    refine ⟨by show 1 ≤ sizeLine; decide, fun q2 hq2 => ?_⟩
    have s7 : Same H6 (upd H6 q2 (.lst [.int 0])) := same_new hq2
    have hq27 : upd H6 q2 (.lst [.int 0]) q2 = some (.lst [.int 0]) := upd_same
    generalize upd H6 q2 (.lst [.int 0]) = H7 at s7 hq27
    refine ⟨q1, q2, _, _, rfl, rfl, s7 _ _ hq16, hq27, ?_, fun q3 hq3 => ?_⟩
    · rw [List.length_map, List.length_drop]
      exact Nat.le_trans (by show _ + 1 ≤ 100000; omega) (by decide)
    have e3 : (((lvs l tr).drop 1).map V.int ++ [V.int 0]) = ((lvs l tr).drop 1 ++ [0]).map V.int := by rw [List.map_append]; rfl
    rw [e3]
    have s8 : Same H7 (upd H7 q3 (.lst (((lvs l tr).drop 1 ++ [0]).map V.int))) := same_new hq3
    have hq3f : upd H7 q3 (.lst (((lvs l tr).drop 1 ++ [0]).map V.int)) q3 = some (.lst (((lvs l tr).drop 1 ++ [0]).map V.int)) := upd_same
    generalize upd H7 q3 (.lst (((lvs l tr).drop 1 ++ [0]).map V.int)) = Hf at s8 hq3f
    have s5f := (s6.trans s7).trans s8
    have hbf := s5f _ _ h15
    refine ⟨a1, q3, _, _, rfl, .inl ⟨SqL.of hbf, SqL.of hq3f, ?_⟩⟩
    have hdf : DctAt Hf D (nb 0 (pre l tr)) := hdd.same s5f
    have nbd : a1 ≠ D := nD1.symm
    have n3d : q3 ≠ D := fun e => by rw [← e] at hD5; exact nomatch ((s6.trans s7) _ _ hD5).symm.trans hq3
    have lz : (lvs l tr).length = min ((lvs l tr).map V.int).length (((lvs l tr).drop 1 ++ [0]).map V.int).length := by
      rw [List.length_map, List.length_map, List.length_append, List.length_drop]
      show _ = min _ (_ - 1 + 1)
      omega
    have dfew : (nb 0 (pre l tr)).length ≤ 1000 := by
      rw [nb_len, pre_len, hns]
      unfold runN
      rw [List.length_map, List.length_range]
      omega
    refine for_it (walk_zip lz) (fun i σ H' => ∃ v5 v6 D', σ = [some v, some (.ref pr), some (.int (room : Int)), some (.ref D), some (.ref R), v5, v6] ∧
      But D Hf H' ∧ DctAt H' D D' ∧ D'.map (·.1) = (nb 0 (pre l tr)).map (·.1) ∧ Laid D' l tr ∧ NextOk D' (lvs l tr) i) ⟨none, none, _, rfl, But.refl D Hf, hdf, rfl, laidD, fun j n hj => by omega⟩ (fun i σ H' _ z => ?_) ?_ ?_
    · obtain ⟨_, _, _, _, b', _⟩ := z
      exact ⟨SqL.of (b' _ _ nbd hbf), SqL.of (b' _ _ n3d hq3f)⟩
    · rintro i x σ Hg Hh hi ⟨v5, v6, D', rfl, bg, hdg, ek, lD, nxt⟩ ⟨tz, x1, x2, rfl, htz, rfl, e1, e2⟩
      obtain ⟨n, hn, rfl⟩ := map_at e1
      obtain ⟨g, hg, rfl⟩ := map_at e2
      rw [foll hi] at hg
      obtain rfl := Option.some.inj hg
      refine ⟨tz, _, rfl, SqT.of upd_same, rfl, _, _, rfl, _, _, rfl, rfl, ?_⟩
      have sg : Same Hg (upd Hg tz (.tup [.int n, .int ((lvs l tr)[i + 1]?.getD 0)])) := same_new htz
      generalize upd Hg tz (.tup [.int n, .int ((lvs l tr)[i + 1]?.getD 0)]) = Hh at sg
      obtain ⟨pp, nx, hlk⟩ := lvs_leaf lD (List.mem_of_getElem? hn)
      obtain ⟨v, hv, t1, qp, rfl, ht1, hqp⟩ := (hdg.same sg).get hlk
      refine ⟨_, rfl, _, rfl, D, _, rfl, hv, 2, rfl, t1, _, rfl, SqT.of ht1, (fun h => absurd (show (2 : Nat) = 3 from h.2) (by decide)), fun _ q4 hq4 => ?_⟩
      have sa : Same Hh (upd Hh q4 (.tup [.str "leaf", .ref qp])) := same_new hq4
      have hqa : upd Hh q4 (.tup [.str "leaf", .ref qp]) q4 = some (.tup [.str "leaf", .ref qp]) := upd_same
      rw [show cutV [V.str "leaf", .ref qp, .int nx] none (some 2) = [V.str "leaf", .ref qp] from rfl]
      generalize upd Hh q4 (.tup [.str "leaf", .ref qp]) = Ha at sa hqa
      refine ⟨_, rfl, by show 1 ≤ sizeLine; decide, fun q5 hq5 => ?_⟩
      have sb : Same Ha (upd Ha q5 (.tup [.int ((lvs l tr)[i + 1]?.getD 0)])) := same_new hq5
      have hqb : upd Ha q5 (.tup [.int ((lvs l tr)[i + 1]?.getD 0)]) q5 = some (.tup [.int ((lvs l tr)[i + 1]?.getD 0)]) := upd_same
      generalize upd Ha q5 (.tup [.int ((lvs l tr)[i + 1]?.getD 0)]) = Hb at sb hqb
      refine ⟨q4, q5, _, _, rfl, rfl, SqT.of (sb _ _ hqa), SqT.of hqb, by show (3 : Nat) ≤ sizeLine; decide, (fun e => by cases e), (fun _ e => by cases e), fun _ _ q6 hq6 => ?_⟩
      have sc : Same Hb (upd Hb q6 (.tup [.str "leaf", .ref qp, .int ((lvs l tr)[i + 1]?.getD 0)])) := same_new hq6
      have hqc : upd Hb q6 (.tup [.str "leaf", .ref qp, .int ((lvs l tr)[i + 1]?.getD 0)]) q6 = some (.tup [.str "leaf", .ref qp, .int ((lvs l tr)[i + 1]?.getD 0)]) := upd_same
      rw [show [V.str "leaf", V.ref qp] ++ [V.int ((lvs l tr)[i + 1]?.getD 0)] = [V.str "leaf", .ref qp, .int ((lvs l tr)[i + 1]?.getD 0)] from rfl]
      generalize upd Hb q6 (.tup [.str "leaf", .ref qp, .int ((lvs l tr)[i + 1]?.getD 0)]) = Hi at sc hqc
      have shi := (sa.trans sb).trans sc
      obtain ⟨es2, hdi, hde⟩ := (hdg.same sg).same shi
      have nl := Paired.length hde
      have nl2 := congrArg List.length ek
      rw [List.length_map, List.length_map] at nl2
      refine ⟨_, rfl, _, rfl, D, _, rfl, DPut.k (k := .inl n) hdi (Nat.lt_of_le_of_lt (by omega : es2.length ≤ 100000) (by decide)), ?_⟩
      have ki : Keep Hi (upd Hi D (.dK (putK es2 (.inl n) (.ref q6)))) := (Keep.refl Hi).upd fun ys e => by rw [hdi] at e; cases e; rfl
      have pg6 : PgAt (upd Hi D (.dK (putK es2 (.inl n) (.ref q6)))) (.ref q6) (.leaf pp ((lvs l tr)[i + 1]?.getD 0)) := ⟨q6, qp, rfl, ki _ _ hqc, (hqp.keep (Keep.of shi)).keep ki⟩
      refine ⟨_, _, setp D' n (.leaf pp ((lvs l tr)[i + 1]?.getD 0)), rfl, (bg.trans (But.of (sg.trans shi))).upd, ⟨_, upd_same, ?_⟩, by rw [setp_keys]; exact ek, lD.setp hlk, nxt.step ndl hn hlk⟩
      have epk := putK_old (v := V.ref q6) hde hlk
      refine (congrArg (fun y => Paired (EnAt (upd Hi D (.dK (putK es2 (.inl n) (.ref q6))))) y (setp D' n (.leaf pp ((lvs l tr)[i + 1]?.getD 0)))) epk).mpr ?_
      exact DctAt.set (k := n) pg6 (paired_imp (fun _ _ (r : EnAt Hi _ _) => (⟨r.1, r.2.keep ki⟩ : EnAt _ _ _)) hde)
    · rintro σ Hg ⟨v5, v6, D', rfl, bg, hdg, ek, lD, nxt⟩
      obtain ⟨es2, hdg1, hde⟩ := hdg
      obtain ⟨ks, rfl, hks⟩ := dct_keys hde
      refine ⟨_, rfl, _, rfl, .inr (.inr (.inl ⟨rfl, .inl ⟨_, hdg1⟩⟩)), D, _, rfl, rfl, hdg1, fun q hq => ?_⟩
      refine ⟨q, D, ks, rfl, upd_same, same_new hq _ _ hdg1, fun Hk z ps' sk hz hperm' hsort hzl hzt => ?_⟩
      refine ⟨z, _, rfl, SqL.of hzl, fun z2 o2 hz2 ho2 => ⟨by show 3 ≤ sizeLine; decide, fun r hr => ?_⟩⟩
      obtain ⟨S, hS, hSp⟩ := paired_perm hperm' hks
      have sgk : Same Hg Hk := fun b o e => sk b o (by rw [upd_ne (ne_of_none e hq)]; exact e)
      have sz : Same Hk (upd Hk z2 (.frz o2 (.tup (ps'.map fun z => V.ref z.1)))) := same_new hz2
      have hz2' : upd Hk z2 (.frz o2 (.tup (ps'.map fun z => V.ref z.1))) z2 = some (.frz o2 (.tup (ps'.map fun z => V.ref z.1))) := upd_same
      generalize upd Hk z2 (.frz o2 (.tup (ps'.map fun z => V.ref z.1))) = Hl at sz hz2' hr
      have sr : Same Hl (upd Hl r (.tup [.int (room : Int), .int 1, .ref z2])) := same_new hr
      have hr' : upd Hl r (.tup [.int (room : Int), .int 1, .ref z2]) r = some (.tup [.int (room : Int), .int 1, .ref z2]) := upd_same
      generalize upd Hl r (.tup [.int (room : Int), .int 1, .ref z2]) = Hm at sr hr'
      have ekn : D'.map (·.1) = nums l tr := by
        rw [ek, nb_nums, pre_len, hns]
        unfold runN
        rw [List.length_map, List.length_range]
      have ndD : (D'.map (·.1)).Nodup := by
        rw [ekn, hns]
        exact List.nodup_iff_pairwise_ne.mpr (runN_nodup.imp fun h z => by omega)
      have tree : TR.Tree room l tr S := by
        rw [← hT]
        refine tree_set r3 r8 wf e up good (by omega) ?_ ?_ ?_ ?_
        · have y := hS.map (·.1)
          rw [hT, ← ekn]
          exact y
        · have y : (S.map (·.1)).Pairwise (· < ·) := by
            rw [← keys_eq hSp, List.map_map]
            exact List.pairwise_map.mpr ((List.pairwise_map (f := fun z : Addr × Int × Addr => z.2) (R := fun e f : Int × Addr => e.1 < f.1)).mp hsort)
          exact List.pairwise_map.mp y
        · rw [hT]
          exact lD.congr fun k => lkp_perm ndD hS k
        · rw [hT]
          intro j n hj hn
          obtain ⟨pp, y⟩ := nxt j n hj hn
          exact ⟨pp, (lkp_perm ndD hS n).trans y⟩
      have t2 := set_tree r3 r8 wf e up good (by omega)
      rw [hT] at t2 kq
      have eS := tree_one tree t2
      subst eS
      refine kq Hm (.ref r) (fun c o ec => ?_) ⟨tree, ?_⟩
      · have nD : c ≠ D := fun z => by rw [z] at ec; exact nomatch ec.symm.trans hDn
        exact sr _ _ (sz _ _ (sgk _ _ (bg _ _ nD (s5f _ _ (f05 _ _ ec)))))
      · rw [hnum]
        exact ⟨r, z2, o2, _, rfl, hr', sr _ _ hz2', ho2, num_paired (Keep.of ((sgk.trans sz).trans sr)) hSp fun z hz => sr _ _ (sz _ _ (hzt z hz))⟩
end
end K30

namespace K30
open PySem PySem.Spec PyProof.Rows L2 RZ HX TR RP EQT
theorem TreeAt.dp {K : PySem.W.Frag} {H : Hp} {v : V} {room root : Int} {S : List (Int × Pg)} (h : TreeAt H v room root S) : Dp K H v (treeD room root S) := by
  obtain ⟨_, _, z⟩ := tree_dp (K := K) h
  exact z
theorem same_but {H0 H H' : Hp} {p : Addr} (s : Same H0 H) (n : H0 p = none) (b : But p H H') : Same H0 H' := fun c o z => b c o (ne_of_none z n) (s c o z)
theorem wf_top {room : Nat} (r3 : 3 ≤ room) : ∀ {l : Nat} {s : Sh l}, WfSh room l false s → WfSh room l true s
  | 0, s, h => ⟨Nat.zero_le _, h.2⟩
  | l + 1, s, ⟨h1, h2, h3⟩ => ⟨by
      have z : (room + 1) / 2 ≤ s.ks.length := h1
      show 2 ≤ s.ks.length
      omega, h2, h3⟩
section
variable {P : Program} {w : World} {K : PySem.W.Frag} {mg : Str → Option Value} {base : Heap}
def sp_law_asked : Sp := fun vs H Q _ => ∃ (v : V) (room l : Nat) (s : Sh l) (pr : Addr) (ps : List (Int × Int)) (c : Bool), vs = [v, .ref pr, .int (room : Int), .bl c] ∧ TwT room l s ps ∧ ShAt H l v s ∧ PrT H pr ps ∧
  ∀ (H' : Hp) (v' : V), Same H H' → SndAt H' v' room l (setT l s 0 ps) (lnk 0 (pre l (setT l s 0 ps))).1 → Q v' H'
theorem ok_law_asked (T : TX K mg) : FnOk P w K mg base CX0 23 (He.ga K "_law_asked") T.fd_law_asked ["shape", "pairs", "space", "left_out"] sp_law_asked := by
  have G_tree_by : FnOk P w K mg base CX0 22 (He.ga K "tree_by") T.fd_tree_by ["shape", "pairs", "room"] sp_tree_by := ok_tree_by T
  have kb_tree_by := kb_tree_by T
  obtain ⟨dt, vds_tree_by, b_tree_by⟩ := b_tree_by T
  refine T.F_law_asked.ok sc_law_asked (fun vs H Q E h => ?_) (fun cdv A outer st H vs Q E hr h => ?_)
  · obtain ⟨v, room, l, s, pr, ps, c, rfl, _⟩ := h
    rfl
  · obtain ⟨v, room, l, s, pr, ps, c, rfl, tw, hs, hpr, kq⟩ := h
    refine ⟨_, PSs.nox (pss_cons (ps_if (PW.pt (pw_and (pt_val (pv 3)) (pw_and1 (pt_cmpR op_eq (pv 2) (pe_gint T.g_ROOM) (nomark _)))))
 (pss_one (ps_ret (pe_call G_tree_by (hr.mono (by first | decide | omega)) rfl T.g_tree_by T.F_tree_by.kp b_tree_by vds_tree_by pass0 (pa_cons (pv 0) (pa_cons (pv 1) pa_nil)))))
 pss_nil)
 (pss_one (ps_ret (pe_callN G_tree_by (hr.mono (by first | decide | omega)) rfl T.g_tree_by T.F_tree_by.kp kb_tree_by pass0 (pa_cons (pv 0) (pa_cons (pv 1) pa_nil)) (pk_cons (pv 2) pk_nil))))), ?_⟩
    cases c with
    | false =>
      refine ⟨_, rfl, false, rfl, iteF ?_⟩
      exact ⟨_, rfl, _, rfl, _, rfl, rfl, rfl, v, room, l, s, pr, ps, rfl, tw, hs, hpr, kq⟩
    | true =>
      refine ⟨_, rfl, true, rfl, iteT ?_⟩
      refine ⟨_, rfl, rfl, _, rfl, ?_⟩
      by_cases c4 : room = 4
      · subst c4
        rw [decide_eq_true (by rfl)]
        exact iteT ⟨_, rfl, _, rfl, v, 4, l, s, pr, ps, rfl, tw, hs, hpr, kq⟩
      · rw [decide_eq_false (fun z => c4 (by injection z with z; omega))]
        exact iteF ⟨_, rfl, _, rfl, _, rfl, rfl, rfl, v, room, l, s, pr, ps, rfl, tw, hs, hpr, kq⟩
def sp_law (K : PySem.W.Frag) : Sp := fun vs H Q _ => ∃ (a : Addr) (ns : List Int), vs = [.ref a] ∧ SqL K H a (ns.map V.int) ∧ ns.length ≤ 63 ∧ ∀ H', Q (.bl true) H'
theorem ok_law (T : TX K mg) : FnOk P w K mg base CX0 30 (He.ga K "law") T.fd_law ["script"] (sp_law K) := by
  have G_law_pot : FnOk P w K mg base CX0 1 (He.ga K "_law_pot") T.fd_law_pot ["script", "k"] (sp_law_pot K) := ok_law_pot T
  have G_law_take : FnOk P w K mg base CX0 1 (He.ga K "_law_take") T.fd_law_take ["pot", "many"] sp_law_take := ok_law_take T
  have G_law_shape : FnOk P w K mg base CX0 8 (He.ga K "_law_shape") T.fd_law_shape ["pot", "space", "levels", "top", "wide"] (sp_law_shape 6) := ok_law_shape T 6
  have G_law_many : FnOk P w K mg base CX0 7 (He.ga K "_law_many") T.fd_law_many ["shape"] (sp_law_many 6) := ok_law_many T 6
  have G_law_pairs : FnOk P w K mg base CX0 2 (He.ga K "_law_pairs") T.fd_law_pairs ["pot", "many"] sp_law_pairs := ok_law_pairs T
  have G_law_asked : FnOk P w K mg base CX0 23 (He.ga K "_law_asked") T.fd_law_asked ["shape", "pairs", "space", "left_out"] sp_law_asked := ok_law_asked T
  have G_law_due : FnOk P w K mg base CX0 11 (He.ga K "_law_due") T.fd_law_due ["shape", "pairs", "space"] sp_law_due := ok_law_due T
  have G_law_same : FnOk P w K mg base CX0 9 (He.ga K "_law_same") T.fd_law_same ["found", "due"] (sp_law_same K 8) := ok_law_same T 8
  have G_shape_of : FnOk P w K mg base CX0 13 (He.ga K "shape_of") T.fd_shape_of ["tree"] sp_shape_of := ok_shape_of T
  have G_pairs_of : FnOk P w K mg base CX0 13 (He.ga K "pairs_of") T.fd_pairs_of ["tree"] sp_pairs_of := ok_pairs_of T
  have b_law_pot := b_law_pot T
  have b_law_take := b_law_take T
  have b_law_shape := b_law_shape T
  have b_law_many := b_law_many T
  have b_law_pairs := b_law_pairs T
  have b_law_asked := b_law_asked T
  have b_law_due := b_law_due T
  have b_law_same := b_law_same T
  have b_shape_of := b_shape_of T
  have b_pairs_of := b_pairs_of T
  refine T.F_law.ok sc_law (fun vs H Q E h => ?_) (fun cdv A outer st H vs Q E hr h => ?_)
  · obtain ⟨a, ns, rfl, _⟩ := h
    rfl
  · obtain ⟨a, ns, rfl, hS, hlen, kq⟩ := h
    refine ⟨_, PSs.nox (pss_cons (ps_for PassesOwn.never rfl (pi_range1 rfl T.n_range (pa_cons (pe_callB (call_max2 rfl) rfl T.n_max (by decide +kernel) (pa_cons pe_int (pa_cons (pe_callB (call_min2 rfl) rfl T.n_min (by decide +kernel) (pa_cons pe_int (pa_cons (pe_callB call_len_seq rfl T.n_len PySem.boot_len (pa_cons (pv 0) pa_nil)) pa_nil))) pa_nil))) pa_nil)) (pg_name (i := 1) sc_law.nd rfl (Or.inl rfl))
 (pss_cons (ps_set (i := 2) sc_law.nd rfl (Or.inl rfl) (pe_call G_law_pot (hr.mono (by first | decide | omega)) rfl T.g_law_pot T.F_law_pot.kp b_law_pot .nil pass0 (pa_cons (pv 0) (pa_cons (pv 1) pa_nil))))
 (Evl.pss_cut (ps_set (i := 3) sc_law.nd rfl (Or.inl rfl) (pe_ix ix_list (RU.pe_lstS (pa_cons (pe_gint T.g_ROOM) (pa_cons (pe_op op_add pe_int (pe_call G_law_take (hr.mono (by first | decide | omega)) rfl T.g_law_take T.F_law_take.kp b_law_take .nil pass0 (pa_cons (pv 2) (pa_cons pe_int pa_nil)))) pa_nil))) (pe_call G_law_take (hr.mono (by first | decide | omega)) rfl T.g_law_take T.F_law_take.kp b_law_take .nil pass0 (pa_cons (pv 2) (pa_cons pe_int pa_nil))) (fun _ _ => rfl)))
 (Evl.pss_cut (ps_set (i := 4) sc_law.nd rfl (Or.inl rfl) (pe_op op_add pe_int (pe_call G_law_take (hr.mono (by first | decide | omega)) rfl T.g_law_take T.F_law_take.kp b_law_take .nil pass0 (pa_cons (pv 2) (pa_cons (pe_ix ix_list (RU.pe_lstS (pa_cons pe_int (pa_cons pe_int pa_nil))) (pe_callTy call_int1 rfl T.n_int (by decide +kernel) (pa_cons (pe_cmpR op_lt (pv 3) pe_int (nomark _)) pa_nil)) (fun _ _ => rfl)) pa_nil)))))
 (pss_cons (ps_set (i := 5) sc_law.nd rfl (Or.inl rfl) (pe_call G_law_shape (hr.mono (by first | decide | omega)) rfl T.g_law_shape T.F_law_shape.kp b_law_shape .nil pass0 (pa_cons (pv 2) (pa_cons (pv 3) (pa_cons (pv 4) (pa_cons pe_bl (pa_cons (pe_callTy call_int1 rfl T.n_int (by decide +kernel) (pa_cons (pe_cmpR op_lt (pv 4) pe_int (nomark _)) pa_nil)) pa_nil)))))))
 (pss_cons (ps_while PassesOwn.never (pt_cmpR op_gt (pe_call G_law_many (hr.mono (by first | decide | omega)) rfl T.g_law_many T.F_law_many.kp b_law_many .nil pass0 (pa_cons (pv 5) pa_nil)) pe_int (nomark _))
 (pss_one (ps_set (i := 5) sc_law.nd rfl (Or.inl rfl) (pe_ix ix_tup (pv 5) pe_int (fun _ _ => rfl)))))
 (pss_cons (ps_set (i := 6) sc_law.nd rfl (Or.inl rfl) (pe_callTy RU.call_tupS rfl T.n_tuple (by decide +kernel) (pa_cons (pe_call G_law_pairs (hr.mono (by first | decide | omega)) rfl T.g_law_pairs T.F_law_pairs.kp b_law_pairs .nil pass0 (pa_cons (pv 2) (pa_cons (pe_call G_law_many (hr.mono (by first | decide | omega)) rfl T.g_law_many T.F_law_many.kp b_law_many .nil pass0 (pa_cons (pv 5) pa_nil)) pa_nil))) pa_nil)))
 (pss_cons (ps_set (i := 7) sc_law.nd rfl (Or.inl rfl) (pe_call G_law_asked (hr.mono (by first | decide | omega)) rfl T.g_law_asked T.F_law_asked.kp b_law_asked .nil pass0 (pa_cons (pv 5) (pa_cons (pv 6) (pa_cons (pv 3) (pa_cons (pe_cmpR op_eq (pe_call G_law_take (hr.mono (by first | decide | omega)) rfl T.g_law_take T.F_law_take.kp b_law_take .nil pass0 (pa_cons (pv 2) (pa_cons pe_int pa_nil))) pe_int (nomark _)) pa_nil))))))
 (pss_cons (ps_if (pt_not (pt_val (pe_call G_law_same (hr.mono (by first | decide | omega)) rfl T.g_law_same T.F_law_same.kp b_law_same .nil pass0 (pa_cons (pv 7) (pa_cons (pe_call G_law_due (hr.mono (by first | decide | omega)) rfl T.g_law_due T.F_law_due.kp b_law_due .nil pass0 (pa_cons (pv 5) (pa_cons (pv 6) (pa_cons (pv 3) pa_nil)))) pa_nil)))))
 (pss_one (ps_ret pe_bl))
 pss_nil)
 (pss_cons (ps_if (PW.pt (pw_or (pt_cmpR (op_neD hr.units) (pe_call G_shape_of (hr.mono (by first | decide | omega)) rfl T.g_shape_of T.F_shape_of.kp b_shape_of .nil pass0 (pa_cons (pv 7) pa_nil)) (pv 5) (nomark _)) (pw_or1 (pt_cmpR (op_neD hr.units) (pe_call G_pairs_of (hr.mono (by first | decide | omega)) rfl T.g_pairs_of T.F_pairs_of.kp b_pairs_of .nil pass0 (pa_cons (pv 7) pa_nil)) (pv 6) (nomark _)))))
 (pss_one (ps_ret pe_bl))
 pss_nil)
 (pss_cons (ps_set (i := 8) sc_law.nd rfl (Or.inl rfl) (pe_callTy RU.call_tupS rfl T.n_tuple (by decide +kernel) (pa_cons (pe_lc (own := [("key", 9), ("value", 10)]) (g := gTup K 2 (gCons (gName 9) (gCons (gName 10) gNil))) (tt := tYes) rfl sc_law.nd (pi_tup (pv 6)) (blkOk_by (own := [("key", 9), ("value", 10)]) (N := ["script", "k", "pot", "space", "levels", "shape", "pairs", "told", "others", "key", "value"]) (sc := defScope s_law) (by decide +kernel)) (fun _ _ _ _ _ => (pg_tup rfl (pgs_cons (pg_name (i := 9) sc_law.nd rfl (Or.inl rfl)) (pgs_cons (pg_name (i := 10) sc_law.nd rfl (Or.inl rfl)) pgs_nil)))) (fun _ _ _ _ _ => pts_nil) (fun _ _ _ _ _ => (pe_tup (pa_cons (pv 9) (pa_cons (pe_op op_sub (pe_op op_powW pe_int pe_int) (pv 10)) pa_nil))))) pa_nil)))
 (pss_cons (ps_if (pt_not (pt_val (pe_call G_law_same (hr.mono (by first | decide | omega)) rfl T.g_law_same T.F_law_same.kp b_law_same .nil pass0 (pa_cons (pe_call G_law_asked (hr.mono (by first | decide | omega)) rfl T.g_law_asked T.F_law_asked.kp b_law_asked .nil pass0 (pa_cons (pv 5) (pa_cons (pv 8) (pa_cons (pv 3) (pa_cons pe_bl pa_nil))))) (pa_cons (pe_call G_law_due (hr.mono (by first | decide | omega)) rfl T.g_law_due T.F_law_due.kp b_law_due .nil pass0 (pa_cons (pv 5) (pa_cons (pv 8) (pa_cons (pv 3) pa_nil)))) pa_nil)))))
 (pss_one (ps_ret pe_bl))
 pss_nil)
 (pss_one (ps_if (pt_not (pt_val (pe_call G_law_same (hr.mono (by first | decide | omega)) rfl T.g_law_same T.F_law_same.kp b_law_same .nil pass0 (pa_cons (pv 7) (pa_cons (pe_call G_law_due (hr.mono (by first | decide | omega)) rfl T.g_law_due T.F_law_due.kp b_law_due .nil pass0 (pa_cons (pv 5) (pa_cons (pv 6) (pa_cons (pv 3) pa_nil)))) pa_nil)))))
 (pss_one (ps_ret pe_bl))
 pss_nil))))))))))))))
 (pss_one (ps_ret pe_bl))), ?_⟩
    refine ⟨_, rfl, a, _, rfl, .inl hS, _, _, rfl, _, _, rfl, ?_⟩
    refine ⟨_, rfl, ?_, ?_, ?_⟩
    · split <;> split <;> omega
    · split <;> split <;> omega
    refine for_range (fun i σ H' => ∃ v1 v2 v3 v4 v5 v6 v7 v8, σ = [some (.ref a), v1, v2, v3, v4, v5, v6, v7, v8, none, none] ∧ Same H H') ⟨_, _, _, _, _, _, _, _, rfl, Same.refl H⟩ ?_ ?_
    · rintro i σ H1 hi ⟨v1, v2, v3, v4, v5, v6, v7, v8, rfl, s1⟩
      have hi4 : i ≤ 1000 := by
        split at hi <;> (try split at hi) <;> omega
      refine ⟨_, rfl, _, rfl, a, ns, i, by rw [Int.zero_add]; rfl, s1.seq hS, hi4, fun H2 p s2 np hp => ?_⟩
      have npH : H p = none := Same.free s1 np
      refine ⟨fun σ' H' => ∃ room : Nat, σ' = [some (.ref a), some (.int (0 + (i : Nat))), some (.ref p), some (.int (room : Int)), v4, v5, v6, v7, v8, none, none] ∧ Same H H' ∧ PotOk H' p 2 ∧ 3 ≤ room ∧ room ≤ 8, ?_, ?_⟩
      · refine ⟨_, rfl, p, 6, _, rfl, by decide, by decide, hp, by decide, fun H3 w3 b3 hp3 l3 u3 => ⟨_, _, rfl, rfl, by show 2 ≤ sizeLine; decide, fun q H4 s4 nq hq => ?_⟩⟩
        refine ⟨_, rfl, p, 2, _, rfl, by decide, by decide, hp3.same s4, by decide, fun H5 w5 b5 hp5 l5 u5 => ?_⟩
        have npq : p ≠ q := hp3.ne nq
        have hq5 := b5 _ _ npq.symm hq
        obtain ⟨room, hm, r3, r8⟩ : ∃ room : Nat, atI [V.int 4, V.int (3 + w3)] w5 = some (.int (room : Int)) ∧ 3 ≤ room ∧ room ≤ 8 := by
          rcases (by omega : w5 = 0 ∨ w5 = 1) with rfl | rfl
          · exact ⟨4, rfl, by omega, by omega⟩
          · refine ⟨3 + w3.toNat, ?_, by omega, by omega⟩
            rw [show ((3 + w3.toNat : Nat) : Int) = 3 + w3 by omega]
            rfl
        exact ⟨q, _, _, _, rfl, rfl, SqL.of hq5, hm, room, rfl, same_but (s1.trans s2 |>.trans (Same.refl _)) npH b3 |>.trans s4 |> fun z => same_but z npH b5, hp5, r3, r8⟩
      rintro σ' H3 ⟨room, rfl, s3, hp3, r3, r8⟩
      refine ⟨fun σ' H' => ∃ l : Nat, σ' = [some (.ref a), some (.int (0 + (i : Nat))), some (.ref p), some (.int (room : Int)), some (.int ((l + 1 : Nat) : Int)), v5, v6, v7, v8, none, none] ∧ Same H H' ∧ PotOk H' p 3 ∧ l ≤ 5, ?_, ?_⟩
      · refine ⟨_, rfl, by show 2 ≤ sizeLine; decide, fun q H4 s4 nq hq => ?_⟩
        refine ⟨_, rfl, _, _, rfl, rfl, .inr ⟨_, rfl, ?_⟩⟩
        obtain ⟨m, hq5, hm, hmm⟩ := pick2 (c := decide ((room : Int) < 5)) hq
        refine ⟨q, _, _, _, rfl, rfl, SqL.of hq5, hm, p, m, _, rfl, by omega, by omega, hp3.same s4, by decide, fun H5 w5 b5 hp5 l5 u5 => ?_⟩
        refine ⟨_, _, rfl, rfl, w5.toNat, ?_, same_but (s3.trans s4) npH b5, hp5, by omega⟩
        rw [show ((w5.toNat + 1 : Nat) : Int) = 1 + w5 by omega]
        rfl
      rintro σ' H4 ⟨l, rfl, s4, hp4, l5⟩
      refine ⟨_, rfl, _, rfl, _, rfl, _, rfl, _, _, rfl, rfl, .inr ⟨_, rfl, ?_⟩⟩
      obtain ⟨wd, ewd, lwd⟩ : ∃ wd : Nat, (if decide (((l + 1 : Nat) : Int) < 5) = true then (1 : Int) else 0) = (wd : Int) ∧ wd ≤ 1 := by
        cases decide (((l + 1 : Nat) : Int) < 5) with
        | true => exact ⟨1, rfl, Nat.le_refl _⟩
        | false => exact ⟨0, rfl, Nat.zero_le _⟩
      have hcs : cS room l ≤ 100000 := by
        have z : ∀ r : Fin 9, ∀ k : Fin 6, cS r.1 k.1 ≤ 100000 := by decide
        exact z ⟨room, by omega⟩ ⟨l, by omega⟩
      refine ⟨p, room, l, wd, true, 3, by rw [← ewd]; rfl, by omega, r3, r8, by omega, hp4, by omega, fun H5 sv s5 b5 hp5 hsv5 wf5 => ?_⟩
      have s05 := same_but s4 npH b5
      refine ⟨fun m σ' H' => ∃ (v : V) (s : Sh m), σ' = [some (.ref a), some (.int (0 + (i : Nat))), some (.ref p), some (.int (room : Int)), some (.int ((l + 1 : Nat) : Int)), some v, v6, v7, v8, none, none] ∧ Same H H' ∧ PotOk H' p 200000 ∧ m ≤ 5 ∧ WfSh room m true s ∧ ShAt H' m v s, ⟨l, sv, s5, rfl, s05, hp5.le (by omega), l5, wf5, hsv5⟩, ?_⟩
      rintro m σ' H6 ⟨v, s, rfl, s6, hp6, m5, wf, hsv⟩
      refine ⟨_, rfl, m, room, true, v, s, rfl, by omega, r8, wf, hsv, fun H7 s7 => ?_⟩
      have s67 := s6.trans s7
      have hp7 := hp6.same s7
      have hsv7 := ShAt.keep (Keep.of s7) hsv
      refine ⟨_, _, rfl, rfl, _, rfl, ?_⟩
      cases c : decide ((200 : Int) < ((cntS m s : Nat) : Int)) with
      | true =>
        have c' := of_decide_eq_true c
        cases m with
        | zero =>
          exfalso
          have z : s.n ≤ room := wf.2
          have y : ((cntS 0 s : Nat) : Int) = (s.n : Int) := rfl
          omega
        | succ m =>
          obtain ⟨b, xs, rfl, hb, hx⟩ := hsv7
          obtain ⟨w1, w2, w3⟩ := wf
          have w1' : 2 ≤ s.ks.length := w1
          obtain ⟨k0, hk0⟩ : ∃ k, s.ks[0]? = some k := ⟨_, List.getElem?_eq_getElem (by omega)⟩
          obtain ⟨x0, hx0, r0⟩ := pget2 hx hk0
          refine iteT ⟨_, fun σ' H' w => ⟨m, Nat.lt_succ_self m, w⟩, ?_⟩
          exact ⟨_, rfl, b, _, 0, _, rfl, rfl, SqT.of hb, HX.at_of (j := 0) hx0 rfl, x0, k0, rfl, s67, hp7, by omega, wf_top r3 (w3 k0 (List.mem_of_getElem? hk0)), r0⟩
      | false =>
        have c' := of_decide_eq_false c
        refine iteF ?_
        refine ⟨_, rfl, _, rfl, m, room, true, v, s, rfl, by omega, r8, wf, hsv7, fun H8 s8 => ?_⟩
        refine ⟨p, cntS m s, 200000, rfl, by omega, hp7.same s8, by omega, fun H9 a1 ps b9 hp9 na hPs hlen hok hlow => ?_⟩
        obtain ⟨xs, hxa, hxp⟩ := hPs
        refine ⟨a1, xs, rfl, SqL.of hxa, fun pr Ha sa npr hpr => ?_⟩
        have s9 := same_but (s67.trans s8) npH b9
        have k79 : Keep H7 H9 := (Keep.of s8).trans ((hp7.same s8).keep b9)
        have hpa := hp9.same sa
        have hprA : PrT Ha pr ps := ⟨xs, hpr, paired_imp (fun _ _ r => PrAt.keep (Keep.of sa) r) hxp⟩
        have hsvA := ShAt.keep (k79.trans (Keep.of sa)) hsv7
        have tw : TwT room m s ps := ⟨by omega, r3, r8, wf, hlen, by omega, hok.2, hok.1⟩
        refine ⟨_, rfl, _, rfl, _, rfl, _, rfl, p, 2, _, rfl, by decide, by decide, hpa, by omega, fun Hb wb bb hpb lb ub => ?_⟩
        refine ⟨rfl, ?_⟩
        have kAB : Keep Ha Hb := hpa.keep bb
        have sB := same_but (s9.trans sa) npH bb
        refine ⟨v, room, m, s, pr, ps, _, rfl, tw, ShAt.keep kAB hsvA, PrT.kp kAB hprA, fun Hc told sc hsnd => ?_⟩
        have kAC := kAB.trans (Keep.of sc)
        have hsvC := ShAt.keep kAC hsvA
        have hprC := PrT.kp kAC hprA
        refine ⟨_, rfl, _, rfl, _, rfl, _, rfl, v, room, m, s, pr, ps, rfl, tw, hsvC, hprC, fun Hd due sd hsnd2 => ?_⟩
        obtain ⟨hT, hA⟩ := hsnd
        refine ⟨told, due, _, rfl, tree_same hT, (hA.same sd).dp, hsnd2.at_.dp, fun He se => ⟨true, rfl, iteF ?_⟩⟩
        have sde := sd.trans se
        have hAe := hA.same sde
        refine ⟨_, rfl, told, room, m, _, _, rfl, ⟨hT, hAe⟩, by omega, fun Hf sv' sf hsv' => ?_⟩
        rw [set_shp hlen] at hsv'
        have scf := sde.trans sf
        have hsvF := ShAt.keep (Keep.of scf) hsvC
        refine ⟨_, rfl, _, _, sh_dp hsv', sh_dp hsvF, sh_shaped (by omega), sh_shaped (by omega), ?_⟩
        rw [SeqAt.eqv_refl _ sh_lay.1]
        refine ⟨false, rfl, iteF ?_⟩
        refine ⟨_, rfl, told, room, m, _, _, rfl, ⟨hT, hAe.same sf⟩, by omega, fun Hg ar sg har => ?_⟩
        rw [set_prs hlen] at har
        have scg := scf.trans sg
        have hprG := PrT.same scg hprC
        refine ⟨_, rfl, _, _, (PrT.s har).dp, (PrT.s hprG).dp, shaped_prs _, shaped_prs _, ?_⟩
        rw [eqv_prsD, decide_eq_true rfl]
        refine ⟨false, rfl, iteF ?_⟩
        obtain ⟨ys, hya, hyp⟩ := id hprG
        refine ⟨_, rfl, pr, rfl, ⟨_, hya.sq⟩, fun L hL => ?_⟩
        refine lc_it (walk_tup (xs := ys)) (fun j H' => Same Hg H' ∧ ∃ zs, H' L = some (.lst zs) ∧ Paired (PrAt H') zs ((ps.take j).map fun q => (q.1, 1000000000 - q.2))) ⟨same_new hL, [], upd_same, .nil⟩ (fun j H' _ z => (hya.same z.1).sq) ?_ ?_
        · rintro j x Hh Hi hj ⟨sh, zs, hLh, hzs⟩ ⟨rfl, hx⟩
          obtain ⟨q, hq, t, rfl, ht⟩ := pget1 hyp hx
          refine ⟨t, _, rfl, SqT.of (sh _ _ ht), rfl, _, _, rfl, _, _, rfl, rfl, rfl, ?_⟩
          dsimp only [tYes]
          rw [if_pos rfl]
          refine ⟨_, rfl, _, _, rfl, rfl, powW_of (a := 4) (by decide) (by decide) (by decide) (by decide), _, rfl, _, _, rfl, rfl, by show 2 ≤ sizeLine; decide, fun tt htt => ?_⟩
          have e10 : (10 : Int) ^ (9 : Int).toNat = 1000000000 := by decide
          have st := same_new (o := .tup [.int q.1, .int ((10 : Int) ^ (9 : Int).toNat - q.2)]) htt
          have htt2 : upd Hi tt (.tup [.int q.1, .int ((10 : Int) ^ (9 : Int).toNat - q.2)]) tt = some (.tup [.int q.1, .int ((10 : Int) ^ (9 : Int).toNat - q.2)]) := upd_same
          have hLt := st _ _ hLh
          refine ⟨zs, hLt, ?_, same_upd (fun c o e => st _ _ (sh c o e)) hL, zs ++ [.ref tt], upd_same, ?_⟩
          · rw [hzs.length, List.length_map, List.length_take]
            exact Nat.lt_of_le_of_lt (by omega : _ ≤ 2000) (by decide)
          · rw [take_more hq, List.map_append]
            have k5 : Keep (upd Hi tt (.tup [.int q.1, .int ((10 : Int) ^ (9 : Int).toNat - q.2)])) (upd (upd Hi tt (.tup [.int q.1, .int ((10 : Int) ^ (9 : Int).toNat - q.2)])) L (.lst (zs ++ [.ref tt]))) := (Keep.refl _).upd fun u e => by rw [hLt] at e; cases e; rfl
            refine paired_snoc ⟨tt, rfl, ?_⟩ (paired_imp (fun _ _ r => PrAt.keep ((Keep.of st).trans k5) r) hzs)
            have z := k5 _ _ htt2
            rw [e10] at z
            exact z
        rintro Hh ⟨sh, zs, hLh, hzs⟩
        rw [hyp.length, List.take_length] at hzs
        refine ⟨L, zs, rfl, SqL.of hLh, fun po Hi si npo hpo => ?_⟩
        have sgi := fun c o (e : Hg c = some o) => si c o (sh c o e)
        have sci : Same Hc Hi := scg.trans sgi
        generalize hqs : (ps.map fun q => (q.1, 1000000000 - q.2)) = qs at hzs
        have hpoI : PrT Hi po qs := ⟨zs, hpo, paired_imp (fun _ _ r => PrAt.keep (Keep.of si) r) hzs⟩
        have qlen : qs.length = cntS m s := by rw [← hqs, List.length_map]; exact hlen
        have tw2 : TwT room m s qs := by
          refine ⟨by omega, r3, r8, wf, qlen, by omega, fun q hq => ?_, ?_⟩
          · rw [← hqs] at hq
            obtain ⟨q0, h0, rfl⟩ := List.mem_map.mp hq
            obtain ⟨g1, g2, g3, g4⟩ := hok.2 q0 h0
            exact ⟨g1, g2, by show 0 ≤ 1000000000 - q0.2; omega, by show 1000000000 - q0.2 ≤ 1000000000; omega⟩
          · rw [← hqs, List.pairwise_map]
            exact hok.1
        have hsvI := ShAt.keep (Keep.of sci) hsvC
        refine ⟨_, rfl, _, rfl, _, rfl, v, room, m, s, po, qs, _, rfl, tw2, hsvI, hpoI, fun Hj told2 sj hsnd3 => ?_⟩
        obtain ⟨hT3, hA3⟩ := hsnd3
        refine ⟨_, rfl, _, rfl, _, rfl, v, room, m, s, po, qs, rfl, tw2, ShAt.keep (Keep.of sj) hsvI, PrT.same sj hpoI, fun Hk due2 sk hsnd4 => ?_⟩
        refine ⟨_, _, _, rfl, tree_same hT3, (hA3.same sk).dp, hsnd4.at_.dp, fun Hl sl => ⟨true, rfl, iteF ?_⟩⟩
        have scl : Same Hc Hl := ((sci.trans sj).trans sk).trans sl
        refine ⟨_, rfl, _, rfl, _, rfl, _, rfl, v, room, m, s, pr, ps, rfl, tw, ShAt.keep (Keep.of scl) hsvC, PrT.same scl hprC, fun Hm due3 sm hsnd5 => ?_⟩
        refine ⟨told, due3, _, rfl, tree_same hT, (hA.same (scl.trans sm)).dp, hsnd5.at_.dp, fun Hn sn => ⟨true, rfl, iteF ?_⟩⟩
        exact ⟨_, _, _, _, _, _, _, _, rfl, ((sB.trans sc).trans (scl.trans sm)).trans sn⟩
    · rintro σ H1 ⟨v1, v2, v3, v4, v5, v6, v7, v8, rfl, s1⟩
      exact kq H1
end
end K30

namespace K30
open PySem PySem.Spec PyProof.Rows L2 RZ HX
def d_is_whole : He.DefD := ⟨("is_whole", none), "is_whole", "is_whole", defArgs s_is_whole, defBody s_is_whole, defScope s_is_whole, [], []⟩
def d_is_between : He.DefD := ⟨("is_between", none), "is_between", "is_between", defArgs s_is_between, defBody s_is_between, defScope s_is_between, [], []⟩
def d_is_row : He.DefD := ⟨("is_row", none), "is_row", "is_row", defArgs s_is_row, defBody s_is_row, defScope s_is_row, [], []⟩
def d_is_key : He.DefD := ⟨("is_key", none), "is_key", "is_key", defArgs s_is_key, defBody s_is_key, defScope s_is_key, [], []⟩
def d_is_value : He.DefD := ⟨("is_value", none), "is_value", "is_value", defArgs s_is_value, defBody s_is_value, defScope s_is_value, [], []⟩
def d_is_room : He.DefD := ⟨("is_room", none), "is_room", "is_room", defArgs s_is_room, defBody s_is_room, defScope s_is_room, [], []⟩
def d_half_of : He.DefD := ⟨("half_of", none), "half_of", "half_of", defArgs s_half_of, defBody s_half_of, defScope s_half_of, [], []⟩
def d_is_pair : He.DefD := ⟨("is_pair", none), "is_pair", "is_pair", defArgs s_is_pair, defBody s_is_pair, defScope s_is_pair, [], []⟩
def d_are_pairs : He.DefD := ⟨("are_pairs", none), "are_pairs", "are_pairs", defArgs s_are_pairs, defBody s_are_pairs, defScope s_are_pairs, [], []⟩
def d_are_rising : He.DefD := ⟨("are_rising", none), "are_rising", "are_rising", defArgs s_are_rising, defBody s_are_rising, defScope s_are_rising, [], []⟩
def d_are_rising_pairs : He.DefD := ⟨("are_rising_pairs", none), "are_rising_pairs", "are_rising_pairs", defArgs s_are_rising_pairs, defBody s_are_rising_pairs, defScope s_are_rising_pairs, [], []⟩
def d_is_page_number : He.DefD := ⟨("is_page_number", none), "is_page_number", "is_page_number", defArgs s_is_page_number, defBody s_is_page_number, defScope s_is_page_number, [], []⟩
def d_is_leaf : He.DefD := ⟨("is_leaf", none), "is_leaf", "is_leaf", defArgs s_is_leaf, defBody s_is_leaf, defScope s_is_leaf, [], []⟩
def d_is_node : He.DefD := ⟨("is_node", none), "is_node", "is_node", defArgs s_is_node, defBody s_is_node, defScope s_is_node, [], []⟩
def d_is_page : He.DefD := ⟨("is_page", none), "is_page", "is_page", defArgs s_is_page, defBody s_is_page, defScope s_is_page, [], []⟩
def d_parts_of : He.DefD := ⟨("parts_of", none), "parts_of", "parts_of", defArgs s_parts_of, defBody s_parts_of, defScope s_parts_of, [], []⟩
def d_is_numbered_page : He.DefD := ⟨("is_numbered_page", none), "is_numbered_page", "is_numbered_page", defArgs s_is_numbered_page, defBody s_is_numbered_page, defScope s_is_numbered_page, [], []⟩
def d_are_numbered_pages : He.DefD := ⟨("are_numbered_pages", none), "are_numbered_pages", "are_numbered_pages", defArgs s_are_numbered_pages, defBody s_are_numbered_pages, defScope s_are_numbered_pages, [], []⟩
def d_levels_from : He.DefD := ⟨("levels_from", none), "levels_from", "levels_from", defArgs s_levels_from, defBody s_levels_from, defScope s_levels_from, [], []⟩
def d_sizes_fit : He.DefD := ⟨("sizes_fit", none), "sizes_fit", "sizes_fit", defArgs s_sizes_fit, defBody s_sizes_fit, defScope s_sizes_fit, [], []⟩
def d_bounds_of : He.DefD := ⟨("bounds_of", none), "bounds_of", "bounds_of", defArgs s_bounds_of, defBody s_bounds_of, defScope s_bounds_of, [], []⟩
def d_keys_fit : He.DefD := ⟨("keys_fit", none), "keys_fit", "keys_fit", defArgs s_keys_fit, defBody s_keys_fit, defScope s_keys_fit, [], []⟩
def d_nexts_fit : He.DefD := ⟨("nexts_fit", none), "nexts_fit", "nexts_fit", defArgs s_nexts_fit, defBody s_nexts_fit, defScope s_nexts_fit, [], []⟩
def d_is_sound : He.DefD := ⟨("is_sound", none), "is_sound", "is_sound", defArgs s_is_sound, defBody s_is_sound, defScope s_is_sound, [], []⟩
def d_need_room : He.DefD := ⟨("need_room", none), "need_room", "need_room", defArgs s_need_room, defBody s_need_room, defScope s_need_room, [], []⟩
def d_need_rising_pairs : He.DefD := ⟨("need_rising_pairs", none), "need_rising_pairs", "need_rising_pairs", defArgs s_need_rising_pairs, defBody s_need_rising_pairs, defScope s_need_rising_pairs, [], []⟩
def d_need_tree : He.DefD := ⟨("need_tree", none), "need_tree", "need_tree", defArgs s_need_tree, defBody s_need_tree, defScope s_need_tree, [], []⟩
def d_levels_in : He.DefD := ⟨("levels_in", none), "levels_in", "levels_in", defArgs s_levels_in, defBody s_levels_in, defScope s_levels_in, [], []⟩
def d_pairs_in : He.DefD := ⟨("pairs_in", none), "pairs_in", "pairs_in", defArgs s_pairs_in, defBody s_pairs_in, defScope s_pairs_in, [], []⟩
def d_pairs_of : He.DefD := ⟨("pairs_of", none), "pairs_of", "pairs_of", defArgs s_pairs_of, defBody s_pairs_of, defScope s_pairs_of, [], []⟩
def d_height_of_kid : He.DefD := ⟨("height_of_kid", none), "height_of_kid", "height_of_kid", defArgs s_height_of_kid, defBody s_height_of_kid, defScope s_height_of_kid, [], []⟩
def d_height_of_node : He.DefD := ⟨("height_of_node", none), "height_of_node", "height_of_node", defArgs s_height_of_node, defBody s_height_of_node, defScope s_height_of_node, [], []⟩
def d_height_of_shape : He.DefD := ⟨("height_of_shape", none), "height_of_shape", "height_of_shape", defArgs s_height_of_shape, defBody s_height_of_shape, defScope s_height_of_shape, [], []⟩
def d_need_shape : He.DefD := ⟨("need_shape", none), "need_shape", "need_shape", defArgs s_need_shape, defBody s_need_shape, defScope s_need_shape, [], []⟩
def d_pairs_in_shape : He.DefD := ⟨("pairs_in_shape", none), "pairs_in_shape", "pairs_in_shape", defArgs s_pairs_in_shape, defBody s_pairs_in_shape, defScope s_pairs_in_shape, [], []⟩
def d_shape_of : He.DefD := ⟨("shape_of", none), "shape_of", "shape_of", defArgs s_shape_of, defBody s_shape_of, defScope s_shape_of, [], []⟩
def d_shape_beneath : He.DefD := ⟨("shape_beneath", none), "shape_beneath", "shape_beneath", defArgs s_shape_beneath, defBody s_shape_beneath, defScope s_shape_beneath, [], []⟩
def d_tree_by : He.DefD := ⟨("tree_by", none), "tree_by", "tree_by", defArgs s_tree_by, defBody s_tree_by, defScope s_tree_by, [], [("room", (He.Dv.int 4))]⟩
def d_set_down : He.DefD := ⟨("set_down", none), "set_down", "set_down", defArgs s_set_down, defBody s_set_down, defScope s_set_down, [], []⟩
def d_linked : He.DefD := ⟨("linked", none), "linked", "linked", defArgs s_linked, defBody s_linked, defScope s_linked, [], []⟩
def d_law_pot : He.DefD := ⟨("_law_pot", none), "_law_pot", "_law_pot", defArgs s_law_pot, defBody s_law_pot, defScope s_law_pot, [], []⟩
def d_law_take : He.DefD := ⟨("_law_take", none), "_law_take", "_law_take", defArgs s_law_take, defBody s_law_take, defScope s_law_take, [], []⟩
def d_law_shape : He.DefD := ⟨("_law_shape", none), "_law_shape", "_law_shape", defArgs s_law_shape, defBody s_law_shape, defScope s_law_shape, [], []⟩
def d_law_many : He.DefD := ⟨("_law_many", none), "_law_many", "_law_many", defArgs s_law_many, defBody s_law_many, defScope s_law_many, [], []⟩
def d_law_pairs : He.DefD := ⟨("_law_pairs", none), "_law_pairs", "_law_pairs", defArgs s_law_pairs, defBody s_law_pairs, defScope s_law_pairs, [], []⟩
def d_law_same : He.DefD := ⟨("_law_same", none), "_law_same", "_law_same", defArgs s_law_same, defBody s_law_same, defScope s_law_same, [], []⟩
def d_law_grown : He.DefD := ⟨("_law_grown", none), "_law_grown", "_law_grown", defArgs s_law_grown, defBody s_law_grown, defScope s_law_grown, [], []⟩
def d_law_due : He.DefD := ⟨("_law_due", none), "_law_due", "_law_due", defArgs s_law_due, defBody s_law_due, defScope s_law_due, [], []⟩
def d_law_asked : He.DefD := ⟨("_law_asked", none), "_law_asked", "_law_asked", defArgs s_law_asked, defBody s_law_asked, defScope s_law_asked, [], []⟩
def d_law : He.DefD := ⟨("law", none), "law", "law", defArgs s_law, defBody s_law, defScope s_law, [], []⟩
def fn : List He.DefD := [d_is_whole, d_is_between, d_is_row, d_is_key, d_is_value, d_is_room, d_half_of, d_is_pair, d_are_pairs, d_are_rising, d_are_rising_pairs, d_is_page_number, d_is_leaf, d_is_node, d_is_page, d_parts_of, d_is_numbered_page, d_are_numbered_pages, d_levels_from, d_sizes_fit, d_bounds_of, d_keys_fit, d_nexts_fit, d_is_sound, d_need_room, d_need_rising_pairs, d_need_tree, d_levels_in, d_pairs_in, d_pairs_of, d_height_of_kid, d_height_of_node, d_height_of_shape, d_need_shape, d_pairs_in_shape, d_shape_of, d_shape_beneath, d_tree_by, d_set_down, d_linked, d_law_pot, d_law_take, d_law_shape, d_law_many, d_law_pairs, d_law_same, d_law_grown, d_law_due, d_law_asked, d_law]
def fa : List He.Fa := [.glo "is_whole", .glo "is_between", .glo "is_row", .glo "is_key", .glo "is_value", .glo "is_room", .glo "half_of", .glo "is_pair", .glo "are_pairs", .glo "are_rising", .glo "are_rising_pairs", .glo "is_page_number", .glo "is_leaf", .glo "is_node", .glo "is_page", .glo "parts_of", .glo "is_numbered_page", .glo "are_numbered_pages", .glo "levels_from", .glo "sizes_fit", .glo "bounds_of", .glo "keys_fit", .glo "nexts_fit", .glo "is_sound", .glo "need_room", .glo "need_rising_pairs", .glo "need_tree", .glo "levels_in", .glo "pairs_in", .glo "pairs_of", .glo "height_of_kid", .glo "height_of_node", .glo "height_of_shape", .glo "need_shape", .glo "pairs_in_shape", .glo "shape_of", .glo "shape_beneath", .glo "tree_by", .glo "set_down", .glo "linked", .glo "_law_pot", .glo "_law_take", .glo "_law_shape", .glo "_law_many", .glo "_law_pairs", .glo "_law_same", .glo "_law_grown", .glo "_law_due", .glo "_law_asked", .glo "law", .glo "GroveError", .glo "NoRoom", .glo "NoTree", .glo "NoPairs", .glo "NoShape", .int "GREATEST" 1000000000, .int "LAST_PAGE" 1000000, .int "LEAST_ROOM" 3, .int "GREATEST_ROOM" 8, .int "ROOM" 4, .free "abs", .free "all", .free "bool", .free "dict", .free "int", .free "isinstance", .free "len", .free "list", .free "max", .free "min", .free "range", .free "reversed", .free "sorted", .free "str", .free "sum", .free "tuple", .free "zip"]
theorem tx {K : PySem.W.Frag} {h : Heap} {mg : Str → Option Value} (X : K.In h) (G : h.Ns mainGlobals mg) (c : He.SaysD fa fn K) : Nonempty (TX K mg) := by
  obtain ⟨fd_is_whole, F_is_whole⟩ := c.def_ 0 (d := d_is_whole) rfl
  obtain ⟨fd_is_between, F_is_between⟩ := c.def_ 1 (d := d_is_between) rfl
  obtain ⟨fd_is_row, F_is_row⟩ := c.def_ 2 (d := d_is_row) rfl
  obtain ⟨fd_is_key, F_is_key⟩ := c.def_ 3 (d := d_is_key) rfl
  obtain ⟨fd_is_value, F_is_value⟩ := c.def_ 4 (d := d_is_value) rfl
  obtain ⟨fd_is_room, F_is_room⟩ := c.def_ 5 (d := d_is_room) rfl
  obtain ⟨fd_half_of, F_half_of⟩ := c.def_ 6 (d := d_half_of) rfl
  obtain ⟨fd_is_pair, F_is_pair⟩ := c.def_ 7 (d := d_is_pair) rfl
  obtain ⟨fd_are_pairs, F_are_pairs⟩ := c.def_ 8 (d := d_are_pairs) rfl
  obtain ⟨fd_are_rising, F_are_rising⟩ := c.def_ 9 (d := d_are_rising) rfl
  obtain ⟨fd_are_rising_pairs, F_are_rising_pairs⟩ := c.def_ 10 (d := d_are_rising_pairs) rfl
  obtain ⟨fd_is_page_number, F_is_page_number⟩ := c.def_ 11 (d := d_is_page_number) rfl
  obtain ⟨fd_is_leaf, F_is_leaf⟩ := c.def_ 12 (d := d_is_leaf) rfl
  obtain ⟨fd_is_node, F_is_node⟩ := c.def_ 13 (d := d_is_node) rfl
  obtain ⟨fd_is_page, F_is_page⟩ := c.def_ 14 (d := d_is_page) rfl
  obtain ⟨fd_parts_of, F_parts_of⟩ := c.def_ 15 (d := d_parts_of) rfl
  obtain ⟨fd_is_numbered_page, F_is_numbered_page⟩ := c.def_ 16 (d := d_is_numbered_page) rfl
  obtain ⟨fd_are_numbered_pages, F_are_numbered_pages⟩ := c.def_ 17 (d := d_are_numbered_pages) rfl
  obtain ⟨fd_levels_from, F_levels_from⟩ := c.def_ 18 (d := d_levels_from) rfl
  obtain ⟨fd_sizes_fit, F_sizes_fit⟩ := c.def_ 19 (d := d_sizes_fit) rfl
  obtain ⟨fd_bounds_of, F_bounds_of⟩ := c.def_ 20 (d := d_bounds_of) rfl
  obtain ⟨fd_keys_fit, F_keys_fit⟩ := c.def_ 21 (d := d_keys_fit) rfl
  obtain ⟨fd_nexts_fit, F_nexts_fit⟩ := c.def_ 22 (d := d_nexts_fit) rfl
  obtain ⟨fd_is_sound, F_is_sound⟩ := c.def_ 23 (d := d_is_sound) rfl
  obtain ⟨fd_need_room, F_need_room⟩ := c.def_ 24 (d := d_need_room) rfl
  obtain ⟨fd_need_rising_pairs, F_need_rising_pairs⟩ := c.def_ 25 (d := d_need_rising_pairs) rfl
  obtain ⟨fd_need_tree, F_need_tree⟩ := c.def_ 26 (d := d_need_tree) rfl
  obtain ⟨fd_levels_in, F_levels_in⟩ := c.def_ 27 (d := d_levels_in) rfl
  obtain ⟨fd_pairs_in, F_pairs_in⟩ := c.def_ 28 (d := d_pairs_in) rfl
  obtain ⟨fd_pairs_of, F_pairs_of⟩ := c.def_ 29 (d := d_pairs_of) rfl
  obtain ⟨fd_height_of_kid, F_height_of_kid⟩ := c.def_ 30 (d := d_height_of_kid) rfl
  obtain ⟨fd_height_of_node, F_height_of_node⟩ := c.def_ 31 (d := d_height_of_node) rfl
  obtain ⟨fd_height_of_shape, F_height_of_shape⟩ := c.def_ 32 (d := d_height_of_shape) rfl
  obtain ⟨fd_need_shape, F_need_shape⟩ := c.def_ 33 (d := d_need_shape) rfl
  obtain ⟨fd_pairs_in_shape, F_pairs_in_shape⟩ := c.def_ 34 (d := d_pairs_in_shape) rfl
  obtain ⟨fd_shape_of, F_shape_of⟩ := c.def_ 35 (d := d_shape_of) rfl
  obtain ⟨fd_shape_beneath, F_shape_beneath⟩ := c.def_ 36 (d := d_shape_beneath) rfl
  obtain ⟨fd_tree_by, F_tree_by⟩ := c.def_ 37 (d := d_tree_by) rfl
  obtain ⟨fd_set_down, F_set_down⟩ := c.def_ 38 (d := d_set_down) rfl
  obtain ⟨fd_linked, F_linked⟩ := c.def_ 39 (d := d_linked) rfl
  obtain ⟨fd_law_pot, F_law_pot⟩ := c.def_ 40 (d := d_law_pot) rfl
  obtain ⟨fd_law_take, F_law_take⟩ := c.def_ 41 (d := d_law_take) rfl
  obtain ⟨fd_law_shape, F_law_shape⟩ := c.def_ 42 (d := d_law_shape) rfl
  obtain ⟨fd_law_many, F_law_many⟩ := c.def_ 43 (d := d_law_many) rfl
  obtain ⟨fd_law_pairs, F_law_pairs⟩ := c.def_ 44 (d := d_law_pairs) rfl
  obtain ⟨fd_law_same, F_law_same⟩ := c.def_ 45 (d := d_law_same) rfl
  obtain ⟨fd_law_grown, F_law_grown⟩ := c.def_ 46 (d := d_law_grown) rfl
  obtain ⟨fd_law_due, F_law_due⟩ := c.def_ 47 (d := d_law_due) rfl
  obtain ⟨fd_law_asked, F_law_asked⟩ := c.def_ 48 (d := d_law_asked) rfl
  obtain ⟨fd_law, F_law⟩ := c.def_ 49 (d := d_law) rfl
  exact ⟨{ fd_is_whole := fd_is_whole, F_is_whole := F_is_whole, g_is_whole := He.glo_ok X G (c.fact 0 (f := .glo "is_whole") rfl), fd_is_between := fd_is_between, F_is_between := F_is_between, g_is_between := He.glo_ok X G (c.fact 1 (f := .glo "is_between") rfl), fd_is_row := fd_is_row, F_is_row := F_is_row, g_is_row := He.glo_ok X G (c.fact 2 (f := .glo "is_row") rfl), fd_is_key := fd_is_key, F_is_key := F_is_key, g_is_key := He.glo_ok X G (c.fact 3 (f := .glo "is_key") rfl), fd_is_value := fd_is_value, F_is_value := F_is_value, g_is_value := He.glo_ok X G (c.fact 4 (f := .glo "is_value") rfl), fd_is_room := fd_is_room, F_is_room := F_is_room, g_is_room := He.glo_ok X G (c.fact 5 (f := .glo "is_room") rfl), fd_half_of := fd_half_of, F_half_of := F_half_of, g_half_of := He.glo_ok X G (c.fact 6 (f := .glo "half_of") rfl), fd_is_pair := fd_is_pair, F_is_pair := F_is_pair, g_is_pair := He.glo_ok X G (c.fact 7 (f := .glo "is_pair") rfl), fd_are_pairs := fd_are_pairs, F_are_pairs := F_are_pairs, g_are_pairs := He.glo_ok X G (c.fact 8 (f := .glo "are_pairs") rfl), fd_are_rising := fd_are_rising, F_are_rising := F_are_rising, g_are_rising := He.glo_ok X G (c.fact 9 (f := .glo "are_rising") rfl), fd_are_rising_pairs := fd_are_rising_pairs, F_are_rising_pairs := F_are_rising_pairs, g_are_rising_pairs := He.glo_ok X G (c.fact 10 (f := .glo "are_rising_pairs") rfl), fd_is_page_number := fd_is_page_number, F_is_page_number := F_is_page_number, g_is_page_number := He.glo_ok X G (c.fact 11 (f := .glo "is_page_number") rfl), fd_is_leaf := fd_is_leaf, F_is_leaf := F_is_leaf, g_is_leaf := He.glo_ok X G (c.fact 12 (f := .glo "is_leaf") rfl), fd_is_node := fd_is_node, F_is_node := F_is_node, g_is_node := He.glo_ok X G (c.fact 13 (f := .glo "is_node") rfl), fd_is_page := fd_is_page, F_is_page := F_is_page, g_is_page := He.glo_ok X G (c.fact 14 (f := .glo "is_page") rfl), fd_parts_of := fd_parts_of, F_parts_of := F_parts_of, g_parts_of := He.glo_ok X G (c.fact 15 (f := .glo "parts_of") rfl), fd_is_numbered_page := fd_is_numbered_page, F_is_numbered_page := F_is_numbered_page, g_is_numbered_page := He.glo_ok X G (c.fact 16 (f := .glo "is_numbered_page") rfl), fd_are_numbered_pages := fd_are_numbered_pages, F_are_numbered_pages := F_are_numbered_pages, g_are_numbered_pages := He.glo_ok X G (c.fact 17 (f := .glo "are_numbered_pages") rfl), fd_levels_from := fd_levels_from, F_levels_from := F_levels_from, g_levels_from := He.glo_ok X G (c.fact 18 (f := .glo "levels_from") rfl), fd_sizes_fit := fd_sizes_fit, F_sizes_fit := F_sizes_fit, g_sizes_fit := He.glo_ok X G (c.fact 19 (f := .glo "sizes_fit") rfl), fd_bounds_of := fd_bounds_of, F_bounds_of := F_bounds_of, g_bounds_of := He.glo_ok X G (c.fact 20 (f := .glo "bounds_of") rfl), fd_keys_fit := fd_keys_fit, F_keys_fit := F_keys_fit, g_keys_fit := He.glo_ok X G (c.fact 21 (f := .glo "keys_fit") rfl), fd_nexts_fit := fd_nexts_fit, F_nexts_fit := F_nexts_fit, g_nexts_fit := He.glo_ok X G (c.fact 22 (f := .glo "nexts_fit") rfl), fd_is_sound := fd_is_sound, F_is_sound := F_is_sound, g_is_sound := He.glo_ok X G (c.fact 23 (f := .glo "is_sound") rfl), fd_need_room := fd_need_room, F_need_room := F_need_room, g_need_room := He.glo_ok X G (c.fact 24 (f := .glo "need_room") rfl), fd_need_rising_pairs := fd_need_rising_pairs, F_need_rising_pairs := F_need_rising_pairs, g_need_rising_pairs := He.glo_ok X G (c.fact 25 (f := .glo "need_rising_pairs") rfl), fd_need_tree := fd_need_tree, F_need_tree := F_need_tree, g_need_tree := He.glo_ok X G (c.fact 26 (f := .glo "need_tree") rfl), fd_levels_in := fd_levels_in, F_levels_in := F_levels_in, g_levels_in := He.glo_ok X G (c.fact 27 (f := .glo "levels_in") rfl), fd_pairs_in := fd_pairs_in, F_pairs_in := F_pairs_in, g_pairs_in := He.glo_ok X G (c.fact 28 (f := .glo "pairs_in") rfl), fd_pairs_of := fd_pairs_of, F_pairs_of := F_pairs_of, g_pairs_of := He.glo_ok X G (c.fact 29 (f := .glo "pairs_of") rfl), fd_height_of_kid := fd_height_of_kid, F_height_of_kid := F_height_of_kid, g_height_of_kid := He.glo_ok X G (c.fact 30 (f := .glo "height_of_kid") rfl), fd_height_of_node := fd_height_of_node, F_height_of_node := F_height_of_node, g_height_of_node := He.glo_ok X G (c.fact 31 (f := .glo "height_of_node") rfl), fd_height_of_shape := fd_height_of_shape, F_height_of_shape := F_height_of_shape, g_height_of_shape := He.glo_ok X G (c.fact 32 (f := .glo "height_of_shape") rfl), fd_need_shape := fd_need_shape, F_need_shape := F_need_shape, g_need_shape := He.glo_ok X G (c.fact 33 (f := .glo "need_shape") rfl), fd_pairs_in_shape := fd_pairs_in_shape, F_pairs_in_shape := F_pairs_in_shape, g_pairs_in_shape := He.glo_ok X G (c.fact 34 (f := .glo "pairs_in_shape") rfl), fd_shape_of := fd_shape_of, F_shape_of := F_shape_of, g_shape_of := He.glo_ok X G (c.fact 35 (f := .glo "shape_of") rfl), fd_shape_beneath := fd_shape_beneath, F_shape_beneath := F_shape_beneath, g_shape_beneath := He.glo_ok X G (c.fact 36 (f := .glo "shape_beneath") rfl), fd_tree_by := fd_tree_by, F_tree_by := F_tree_by, g_tree_by := He.glo_ok X G (c.fact 37 (f := .glo "tree_by") rfl), fd_set_down := fd_set_down, F_set_down := F_set_down, g_set_down := He.glo_ok X G (c.fact 38 (f := .glo "set_down") rfl), fd_linked := fd_linked, F_linked := F_linked, g_linked := He.glo_ok X G (c.fact 39 (f := .glo "linked") rfl), fd_law_pot := fd_law_pot, F_law_pot := F_law_pot, g_law_pot := He.glo_ok X G (c.fact 40 (f := .glo "_law_pot") rfl), fd_law_take := fd_law_take, F_law_take := F_law_take, g_law_take := He.glo_ok X G (c.fact 41 (f := .glo "_law_take") rfl), fd_law_shape := fd_law_shape, F_law_shape := F_law_shape, g_law_shape := He.glo_ok X G (c.fact 42 (f := .glo "_law_shape") rfl), fd_law_many := fd_law_many, F_law_many := F_law_many, g_law_many := He.glo_ok X G (c.fact 43 (f := .glo "_law_many") rfl), fd_law_pairs := fd_law_pairs, F_law_pairs := F_law_pairs, g_law_pairs := He.glo_ok X G (c.fact 44 (f := .glo "_law_pairs") rfl), fd_law_same := fd_law_same, F_law_same := F_law_same, g_law_same := He.glo_ok X G (c.fact 45 (f := .glo "_law_same") rfl), fd_law_grown := fd_law_grown, F_law_grown := F_law_grown, g_law_grown := He.glo_ok X G (c.fact 46 (f := .glo "_law_grown") rfl), fd_law_due := fd_law_due, F_law_due := F_law_due, g_law_due := He.glo_ok X G (c.fact 47 (f := .glo "_law_due") rfl), fd_law_asked := fd_law_asked, F_law_asked := F_law_asked, g_law_asked := He.glo_ok X G (c.fact 48 (f := .glo "_law_asked") rfl), fd_law := fd_law, F_law := F_law, g_law := He.glo_ok X G (c.fact 49 (f := .glo "law") rfl), g_GroveError := He.glo_ok X G (c.fact 50 (f := .glo "GroveError") rfl), g_NoRoom := He.glo_ok X G (c.fact 51 (f := .glo "NoRoom") rfl), g_NoTree := He.glo_ok X G (c.fact 52 (f := .glo "NoTree") rfl), g_NoPairs := He.glo_ok X G (c.fact 53 (f := .glo "NoPairs") rfl), g_NoShape := He.glo_ok X G (c.fact 54 (f := .glo "NoShape") rfl), g_GREATEST := He.int_ok X G (c.fact 55 (f := .int "GREATEST" 1000000000) rfl), g_LAST_PAGE := He.int_ok X G (c.fact 56 (f := .int "LAST_PAGE" 1000000) rfl), g_LEAST_ROOM := He.int_ok X G (c.fact 57 (f := .int "LEAST_ROOM" 3) rfl), g_GREATEST_ROOM := He.int_ok X G (c.fact 58 (f := .int "GREATEST_ROOM" 8) rfl), g_ROOM := He.int_ok X G (c.fact 59 (f := .int "ROOM" 4) rfl), n_abs := He.free_ok X G (c.fact 60 (f := .free "abs") rfl), n_all := He.free_ok X G (c.fact 61 (f := .free "all") rfl), n_bool := He.free_ok X G (c.fact 62 (f := .free "bool") rfl), n_dict := He.free_ok X G (c.fact 63 (f := .free "dict") rfl), n_int := He.free_ok X G (c.fact 64 (f := .free "int") rfl), n_isinstance := He.free_ok X G (c.fact 65 (f := .free "isinstance") rfl), n_len := He.free_ok X G (c.fact 66 (f := .free "len") rfl), n_list := He.free_ok X G (c.fact 67 (f := .free "list") rfl), n_max := He.free_ok X G (c.fact 68 (f := .free "max") rfl), n_min := He.free_ok X G (c.fact 69 (f := .free "min") rfl), n_range := He.free_ok X G (c.fact 70 (f := .free "range") rfl), n_reversed := He.free_ok X G (c.fact 71 (f := .free "reversed") rfl), n_sorted := He.free_ok X G (c.fact 72 (f := .free "sorted") rfl), n_str := He.free_ok X G (c.fact 73 (f := .free "str") rfl), n_sum := He.free_ok X G (c.fact 74 (f := .free "sum") rfl), n_tuple := He.free_ok X G (c.fact 75 (f := .free "tuple") rfl), n_zip := He.free_ok X G (c.fact 76 (f := .free "zip") rfl) }⟩
def loose : List Str := (["__name__", "GroveError", "NoRoom", "NoTree", "NoPairs", "NoShape", "GREATEST", "LAST_PAGE", "LEAST_ROOM", "GREATEST_ROOM", "is_whole", "is_between"] : List Str) ++ (["is_row", "is_key", "is_value", "is_room", "half_of", "is_pair", "are_pairs", "are_rising", "are_rising_pairs", "is_page_number", "is_leaf", "is_node"] : List Str) ++ (["is_page", "parts_of", "is_numbered_page", "are_numbered_pages", "levels_from", "sizes_fit", "bounds_of", "keys_fit", "nexts_fit", "is_sound", "need_room", "need_rising_pairs"] : List Str) ++ (["need_tree", "ROOM", "levels_in", "pairs_in", "pairs_of", "height_of_kid", "height_of_node", "height_of_shape", "need_shape", "pairs_in_shape", "shape_of", "shape_beneath"] : List Str) ++ (["tree_by", "set_down", "linked", "_law_pot", "_law_take", "_law_shape", "_law_many", "_law_pairs", "_law_same", "_law_grown", "_law_due", "_law_asked"] : List Str)
abbrev R : PySem.W.OpenRow := PySem.W.OpenLaw.row PySem.Challenge.rw_latchgrove_k30_trees_by_shapes
abbrev hk : PySem.W.Hook := He.hookD 5 fa fn
def ob (s : PySem.W.SharedT) : He.AlD := He.obsDG 5 fa fn (HandSHeadRun.getT s)
theorem ob_eq (s : PySem.W.SharedT) : ob s = hk.obs s.abs := He.obsDG_eq (HandSHeadRun.getT_eq s)
theorem run (w : World) : HandSHeadRun.RunEq R (PySem.W.view R.prog [67]) hk ob 12000 loose w := by
  intro os
  kernel_rfl
end K30

open PySem PySem.W PySem.Calls PyProof.Rows
theorem PySem.Challenge.cw_latchgrove_k30_trees_by_shapes_holds : PySem.Challenge.rw_latchgrove_k30_trees_by_shapes.Holds := by
  w_on; o_law
  refine HandSHeadRun.head_any (r := OpenLaw.row PySem.Challenge.rw_latchgrove_k30_trees_by_shapes) (q := view (OpenLaw.row PySem.Challenge.rw_latchgrove_k30_trees_by_shapes).prog [67]) (H := K30.hk) (ob := K30.ob) (M := 12000) (loose := K30.loose) (d := HandSHeadRun.topDef (OpenLaw.row PySem.Challenge.rw_latchgrove_k30_trees_by_shapes).prog 67) (kwd := []) K30.ob_eq
    (by kernel_rfl) (fun s => by kernel_rfl) K30.run (by kernel_rfl) (by kernel_rfl) (by kernel_rfl) (by rfl) (by first | assumption | decide +kernel) (by decide +kernel) ⟨rfl, rfl, rfl, rfl, rfl, by decide +kernel⟩ ?hw ?hc
  case hw => w_witness2
  case hc =>
    refine L2.walk_ofE (l := PySem.Challenge.rw_latchgrove_k30_trees_by_shapes) (n := 63) (k := 30) (x := "script") (CX := L2.CX0) rfl (by decide) (by kernel_rfl) ⟨rfl, by decide, by decide⟩ ?F (fun _ _ _ _ z => z)
    intro w mg fa h Y G hmg0
    obtain ⟨K, KX, c⟩ := Y
    have hmg : mg ("law" : PySem.Str) = some (.ref fa) := by
      have e : (HandSHeadRun.topDef (OpenLaw.row PySem.Challenge.rw_latchgrove_k30_trees_by_shapes).prog 67).name = ("law" : PySem.Str) := by kernel_rfl
      rw [← e]
      exact hmg0
    obtain ⟨T⟩ := K30.tx KX G c
    have e := hmg.symm.trans T.g_law
    cases e
    have b := L2.FunD.bindsA (ps := ["script"]) T.F_law fun _ _ _ _ _ _ us hl => match us, hl with | [_], _ => rfl
    exact ⟨K, T.fd_law, K30.sp_law K, KX, fun s v => b s [v] rfl, fun H a ns hl _ hS => ⟨a, ns, rfl, hS, hl, fun _ => rfl⟩, fun base _ _ => K30.ok_law T⟩

