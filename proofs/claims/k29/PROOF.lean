import PyProof.Rows.All
import Wide.All
import OpenK.AllK
import Wide.FinOn
import KE.KStateDown
import Lean
import HandS.ForMost
import HandS.Wide
import HandS.IsInst
import HandS.Zip
import HandS.Walk
import HandS.Style
import HandS.Defaults
import HandS.MakeKwOnly
import HandS.CallRecv
import HandS.Sort
import HandS.Evl
import HandS.DictTup
import HandS.SortOrd
import HandS.Deep
import HandS.Head0
import HandS.Head1
import HandS.Head2
import HandS.HeadEnd
import HandS.HeadHook1
import HandS.HeadHook2
import HandS.TupAny
import KE.GoesNew
import KE.GoesMore
import HandS.Star
import KE.KDictPairs
import HandS.WordsDict
import HandS.SortRule
import HandS.More
import HandS.Strs
import HandS.SetFor
import HandS.SortInts
import HandS.TupMul
import HandS.Conv
import HandS.Flow
import HandS.Rev
import HandS.Small
import PySem.Challenge.RW_latchgrove_k29_shapes_of_trees
set_option Elab.async false
set_option linter.all false
set_option maxRecDepth 100000
set_option maxHeartbeats 8000000
namespace HX
open PySem PySem.Spec PyProof.Rows L2

/-! ### numbers -/
def CPowW (i j : Int) : Prop := 0 ≤ j ∧ (Builtin.Int.intBits i : Int) * j ≤ 2 ^ 27
section
variable {X : Cx}
theorem op_powW : OpR X (binaryOp .Pow) (rI CPowW fun i j => .int (i ^ j.toNat)) := opI fun _ _ _ _ _ _ _ hc q => pow_int hc.1 hc.2 q
end
theorem intBits_le (x : Int) : Builtin.Int.intBits x ≤ x.natAbs.log2 + 1 := by
  unfold Builtin.Int.intBits
  split <;> omega
theorem powW_of {i j : Int} {a : Nat} (h0 : 0 ≤ j) (ha : i.natAbs < 2 ^ a) (hp : 0 < a) (h : (a : Int) * j ≤ 2 ^ 27) : CPowW i j := by
  refine ⟨h0, ?_⟩
  have x := PySem.Flt.log2_lt_of hp ha
  have y := intBits_le i
  have z : (Builtin.Int.intBits i : Int) ≤ (a : Int) := by omega
  exact Int.le_trans (Int.mul_le_mul_of_nonneg_right z h0) h

/-! ### xs[i] op= e -/
section
variable {X : Cx}
theorem get_list : PGet X (rIxL X.K) := by
  intro pins s σ H o i ov iv Q I rx ry h
  obtain ⟨p, xs, k, z, rfl, rfl, hq, he, q⟩ := h
  cases rx
  obtain ⟨t, rfl⟩ := ry
  obtain ⟨its, r, pl, hz⟩ := I.list hq
  obtain ⟨j, h1, h2, h3, h4, h5⟩ := atI_get he
  obtain ⟨w, ew, rw'⟩ := r.get h2
  have hl := r.length
  have hn := line63
  have fin : EP X pins σ Q w s := ⟨z, H, I, rw', q⟩
  by_cases h0 : 0 ≤ k
  · have hj : k.toNat = j := by
      rw [seqIndex_of h0 h5] at h1
      exact Option.some.inj h1
    exact wpAny_getItem_list pl.isList h0 (by omega) (by rw [hj]; simpa using ew) fin
  · have hj : (k + (its.toArray.size : Int)).toNat = j := by
      rw [seqIndex_neg (by omega) h4] at h1
      rw [List.size_toArray, ← hl]
      exact Option.some.inj h1
    exact wpAny_getItem_list_neg pl.isList (by omega) (by rw [List.size_toArray] <;> omega) (by omega) (by rw [hj]; simpa using ew) fin
end

/-! ### a walk over a range held as a value -/
section
variable {X : Cx} {tg : Expr}
def iRngV (te : TE) : TI := fun σ H R => te σ H fun v H1 => ∃ (a : Addr) (lo hi : Int), v = .ref a ∧ H1 a = some (.rng lo hi) ∧ (-(2 ^ 62) ≤ lo ∧ lo < 2 ^ 62 ∧ -(2 ^ 62) ≤ hi ∧ hi < 2 ^ 62) ∧ R (Itr lo (hi - lo).toNat) H1
theorem pi_rngV {e : Expr} {te : TE} (he : PE X e te) : PI X tg e (iRngV te) := by
  refine ⟨fun pins s σ H R I h => ?_⟩
  refine thn (he.run pins s σ H _ I h) fun u s1 ⟨x, H1, I1, rx, a, lo, hi, ex, ea, ⟨h1, h2, h3, h4⟩, q⟩ => ?_
  subst ex
  obtain rfl : u = Value.ref a := rx
  obtain ⟨t, u, v, ho⟩ := I1.hok _ _ ea
  refine wpAny_pyIter_range ho (small_one h1 h2 h3 h4) ?_
  refine ⟨s1.heap.objs.size, [s1.heap.objs.size], _, _, H1, rfl,
    I1.kept (t' := s1.toks) fun b o e => Heap.get?_push_of_some _ e, turn_range _ lo (hi - lo).toNat, ?_, fun b hb => ?_, q⟩
  · have e1 : lo + ((0 : Nat) : Int) * 1 = lo := by simp
    have e2 : (((hi - lo).toNat : Nat) : Int) - ((0 : Nat) : Int) = Builtin.Range.rangeSize lo hi 1 := by rw [rangeSize_one]; split <;> omega
    show IsRangeIter _ _ (lo + ((0 : Nat) : Int) * 1) ((((hi - lo).toNat : Nat) : Int) - ((0 : Nat) : Int)) 1
    rw [e1, e2]
    exact Heap.get?_push_size _ rfl
  · have e : b = s1.heap.objs.size := by simpa using hb
    subst e
    exact I1.fpOk (Nat.le_refl _) (I1.hok.fresh (Nat.le_refl _))
end

/-! ### heaps -/
theorem same_upd {H H' : Hp} {p : Addr} {o : HO} (s : Same H H') (h : H p = none) : Same H (upd H' p o) := fun b u e => by
  rw [upd_ne (fun z => by rw [z, h] at e; cases e)]
  exact s b u e
theorem same_new {H : Hp} {p : Addr} {o : HO} (h : H p = none) : Same H (upd H p o) := same_upd (Same.refl H) h
/-- all but what stands at p is as it was -/
def But (p : Addr) (H H' : Hp) : Prop := ∀ b o, b ≠ p → H b = some o → H' b = some o
theorem But.refl (p : Addr) (H : Hp) : But p H H := fun _ _ _ h => h
theorem But.trans {p : Addr} {H H1 H2 : Hp} (a : But p H H1) (b : But p H1 H2) : But p H H2 := fun c o n h => b c o n (a c o n h)
theorem But.of {p : Addr} {H H' : Hp} (s : Same H H') : But p H H' := fun b o _ h => s b o h
theorem But.upd {p : Addr} {H H' : Hp} {o : HO} (s : But p H H') : But p H (upd H' p o) := fun b u n e => by
  rw [upd_ne n]
  exact s b u n e
theorem But.new {p q : Addr} {H H' : Hp} {o : HO} (s : But p H H') (h : H' q = none) : But p H (L2.upd H' q o) := fun b u n e => by
  have e' := s b u n e
  rw [upd_ne (ne_of_none e' h)]
  exact e'
theorem But.seq {K : PySem.W.Frag} {H H' : Hp} {p a : Addr} {xs : List V} (e : But p H H') (n : a ≠ p) (h : SqL K H a xs) : SqL K H' a xs := by
  rcases h with (h | ⟨o, h⟩) | h
  · exact .inl (.inl (e _ _ n h))
  · exact .inl (.inr ⟨o, e _ _ n h⟩)
  · exact .inr h

/-! ### names of the module, of built-in classes -/
section
variable {X : Cx} {x : Str} {pos : Pos}
theorem pe_gint {i : Int} (h : ∃ t, X.mg x = some (.int i t)) (hg : Gl X x := by rfl) (hdb : (x == ("__debug__" : Str)) = false := by decide) : PE X (.Name x pos) (tC (.int i)) := by
  obtain ⟨t, ht⟩ := h
  exact pe_glob hg ht ⟨t, rfl⟩ hdb
theorem pe_ty (n : String) (hm : X.mg x = none) (hv : bootBuiltins x = some (.type n)) (hg : Gl X x := by rfl) (hn : x ≠ ("__name__" : Str) := by decide) (hdb : (x == ("__debug__" : Str)) = false := by decide) : PE X (.Name x pos) (tC (.ty n)) := pe_bltn hg hm hv rfl hn hdb
end

/-! ### lists of whole numbers by a function of the place -/
def fl (n : Nat) (f : Nat → Int) : List V := (List.range n).map fun i => V.int (f i)
theorem fl_len (n : Nat) (f : Nat → Int) : (fl n f).length = n := by unfold fl; rw [List.length_map, List.length_range]
theorem fl_get {n : Nat} {f : Nat → Int} {i : Nat} (h : i < n) : (fl n f)[i]? = some (.int (f i)) := by
  unfold fl
  rw [List.getElem?_map, List.getElem?_range h]
  rfl
theorem fl_at {n : Nat} {f : Nat → Int} {i : Nat} (h : i < n) : atI (fl n f) (i : Int) = some (.int (f i)) := atI_nat (fl_get h)
theorem fl_at' {n : Nat} {f : Nat → Int} {i : Int} {k : Nat} (h : k < n) (e : i = (k : Int)) : atI (fl n f) i = some (.int (f k)) := by
  subst e
  exact fl_at h
theorem at_of {α : Type} {xs : List α} {i : Int} {j : Nat} {v : α} (h : xs[j]? = some v) (e : i = (j : Int)) : atI xs i = some v := by
  subst e
  exact atI_nat h
theorem at_last {α : Type} {xs : List α} {n : Nat} {v : α} (hl : xs.length = n + 1) (h : xs[n]? = some v) : atI xs (-1) = some v := by
  have e : ixN xs.length (-1) = some n := by
    unfold ixN
    rw [hl, if_neg (by decide), if_pos (by omega)]
    congr 1
    omega
  unfold atI
  rw [e]
  exact h
theorem fl_congr {n : Nat} {f g : Nat → Int} (h : ∀ i, i < n → f i = g i) : fl n f = fl n g := by
  unfold fl
  exact List.map_congr_left fun i hi => by rw [h i (List.mem_range.mp hi)]
theorem fl_set {n : Nat} {f : Nat → Int} {j : Nat} (v : Int) (h : j < n) : (fl n f).set j (.int v) = fl n (fun i => if i = j then v else f i) := by
  refine List.ext_getElem? fun i => ?_
  by_cases hi : i < n
  · rw [fl_get hi, List.getElem?_set, fl_len]
    by_cases e : j = i
    · subst e
      rw [if_pos rfl, if_pos h, if_pos rfl]
    · rw [if_neg e, fl_get hi, if_neg (fun z => e z.symm)]
  · rw [List.getElem?_eq_none (by rw [List.length_set, fl_len]; omega), List.getElem?_eq_none (by rw [fl_len]; omega)]
theorem fl_rep (n : Nat) (v : Int) : (List.replicate n [V.int v]).flatten = fl n (fun _ => v) := by
  refine List.ext_getElem? fun i => ?_
  have e : (List.replicate n [V.int v]).flatten = List.replicate n (V.int v) := by
    induction n with
    | zero => rfl
    | succ n ih => rw [List.replicate_succ, List.flatten_cons, ih]; rfl
  rw [e]
  by_cases hi : i < n
  · rw [fl_get hi, List.getElem?_replicate, if_pos hi]
  · rw [List.getElem?_eq_none (by rw [List.length_replicate]; omega), List.getElem?_eq_none (by rw [fl_len]; omega)]
theorem fl_snoc (n : Nat) (f : Nat → Int) : fl n f ++ [.int (f n)] = fl (n + 1) f := by
  unfold fl
  rw [List.range_succ, List.map_append]
  rfl
theorem fl_cons (n : Nat) (f : Nat → Int) : V.int (f 0) :: fl n (fun i => f (i + 1)) = fl (n + 1) f := by
  unfold fl
  rw [List.range_succ_eq_map, List.map_cons, List.map_map]
  rfl
theorem ixN_nat {n j : Nat} (h : j < n) : ixN n (j : Int) = some j := by
  unfold ixN
  rw [if_pos (by omega), if_pos (by omega)]
  simp
theorem ixN_nat' {n j : Nat} {i : Int} (h : j < n) (e : i = (j : Int)) : ixN n i = some j := by
  subst e
  exact ixN_nat h
theorem take_more {α : Type} : ∀ {l : List α} {i : Nat} {x : α}, l[i]? = some x → l.take (i + 1) = l.take i ++ [x]
  | [], i, x, h => by simp at h
  | a :: l, 0, x, h => by
    have e : a = x := Option.some.inj h
    subst e
    rfl
  | a :: l, i + 1, x, h => by
    have ih := take_more (l := l) (i := i) (x := x) h
    show a :: l.take (i + 1) = a :: l.take i ++ [x]
    rw [ih]
    rfl
theorem Same.list {H H' : Hp} {a : Addr} {xs : List V} (s : Same H H') (h : H a = some (.lst xs)) : H' a = some (.lst xs) := s _ _ h

/-! ### fields -/
theorem lk_hit (f : Str) (v : V) (fs : List (Str × V)) : (putF f v fs).lookup f = some v := by rw [lookup_putF, if_pos rfl]
theorem lk_miss {f g : Str} (h : ¬ f = g) {v : V} {fs : List (Str × V)} {o : Option V} (q : fs.lookup g = o) : (putF f v fs).lookup g = o := by rw [lookup_putF, if_neg (fun z => h z.symm)]; exact q
theorem putF_len (f : Str) (v : V) : ∀ fs : List (Str × V), (putF f v fs).length ≤ fs.length + 1
  | [] => Nat.le_refl _
  | (g, x) :: r => by
    unfold putF
    split
    · exact Nat.le_succ _
    · exact Nat.succ_le_succ (putF_len f v r)
theorem putF_lt {f : Str} {v : V} {fs : List (Str × V)} {n : Nat} (h : fs.length < n) : (putF f v fs).length < n + 1 := Nat.lt_of_le_of_lt (putF_len f v fs) (Nat.succ_lt_succ h)

/-! ### the same rules with the written part named (for what stands in a comprehension) -/
section
variable {X : Cx}
theorem ixl (K : PySem.W.Frag) (h : X.K = K := by rfl) : IxR X (rIxL K) := by
  subst h
  exact ix_list
theorem ixt (K : PySem.W.Frag) (h : X.K = K := by rfl) : IxR X (rIxT K) := by
  subst h
  exact ix_tup
theorem lenK (K : PySem.W.Frag) (h : X.K = K := by rfl) : CallR X (.builtin "len") (fun xs H Q => ∃ p ys, xs = [.ref p] ∧ (SqL K H p ys ∨ SqT K H p ys) ∧ Q (.int ys.length) H) := by
  subst h
  exact call_len_seq
theorem isiK (K : PySem.W.Frag) (h : X.K = K := by rfl) : CallR X (.builtin "isinstance") (rIsi K) := by
  subst h
  exact call_isi
theorem sllK (K : PySem.W.Frag) (h : X.K = K := by rfl) : SlR X (rSlL K) := by
  subst h
  exact sl_list
theorem pe_fldK (K : PySem.W.Frag) {e : Expr} {f : Str} {pos : Pos} {ta : TE} (he : PE X e ta) (hb : attributeBase e f X.env (eval e X.env) = eval e X.env) (h : X.K = K := by rfl) : PE X (.Attribute e f pos) (tFld K ta f) := by
  subst h
  exact pe_fld he hb
end
end HX

/-! ### sorted(d.items()), d a dict with whole numbers as keys and objects as values -/
namespace HS
open PySem PySem.Spec PyProof.Rows L2
section
variable {X : Cx}
/-- d.items() -/
def rItemsK : V → List V → Hp → VK → Prop := fun x xs H Q => ∃ (a : Addr) (kvs : List (L2.Key × V)), x = .ref a ∧ xs = [] ∧ H a = some (.dK kvs) ∧ ∀ p, H p = none → Q (.ref p) (upd H p (DX.itemsO p a))
theorem mt_itemsK : MtR X "dict.items" rItemsK := by
  intro pins s σ H x xs v us Q I rx rxs h
  obtain ⟨a, kvs, rfl, rfl, ha, q⟩ := h
  cases rx
  cases rxs
  obtain ⟨z, hd, vs, rel, o, es, ep, ho, hx, hdat, _⟩ := dk_of I.hok ha
  refine DT.callItems (es := es) (ep := ep) hd ⟨o, ho, hx, hdat⟩ ?_
  have hf : H s.heap.objs.size = none := I.hok.fresh (Nat.le_refl _)
  exact ⟨.ref s.heap.objs.size, upd H s.heap.objs.size (DX.itemsO s.heap.objs.size a), I.laid (t' := s.toks) (fun b u e => Heap.get?_push_of_some _ e) (Nat.le_refl _) (DX.itemsO_ok (Heap.get?_push_size _ rfl)), rfl, q _ hf⟩
abbrev entK (e : Int × Addr) : L2.Key × V := (Sum.inl e.1, V.ref e.2)
def rSortItK : List V → Hp → VK → Prop := fun vs H Q => ∃ (p a : Addr) (ks : List (Int × Addr)), vs = [.ref p] ∧ H p = some (DX.itemsO p a) ∧ H a = some (.dK (ks.map entK)) ∧
  ∀ (H' : Hp) (l : Addr) (ps : List (Addr × Int × Addr)), (∀ b o, H b = some o → H' b = some o) → H l = none → (ps.map (·.2)).Perm ks → (ps.map (·.2)).Pairwise (fun e f => e.1 < f.1) → H' l = some (.lst (ps.map fun z => V.ref z.1)) →
    (∀ z ∈ ps, H' z.1 = some (.tup [.int z.2.1, .ref z.2.2])) → Q (.ref l) H'
/-- the first item, a whole number, of the tuple that the value stands for -/
def kfI (h : Heap) (v : Value) : Int := match v with
  | .ref b => (match h.get? b with
    | some o => (match o.data with
      | .seq xs _ => (match (xs[0]? : Option Value) with
        | some (Value.int i _) => i
        | _ => 0)
      | _ => 0)
    | _ => 0)
  | _ => 0
theorem kfI_of {h : Heap} {b : Addr} {o : Obj} {i : Int} {t : Tok} {v : Value} {n : Nat} (ho : h.get? b = some o) (hd : o.data = .seq #[.int i t, v] n) : kfI h (.ref b) = i := by
  unfold kfI
  simp only [ho, hd]
  rfl
theorem swo_int (k : Value → Int) : SrtO.Swo fun v u => decide (k v < k u) := by
  refine ⟨fun x y h => ?_, fun x y z h1 h2 => ?_⟩
  · have a := of_decide_eq_true h
    exact decide_eq_false (by omega)
  · have a := of_decide_eq_false h1
    have b := of_decide_eq_false h2
    exact decide_eq_false (by omega)
/-- a pair with a whole number first -/
def IsEnt (h : Heap) (v : Value) (i : Int) : Prop := ∃ (a : Addr) (o : Obj) (t : Tok) (u : Value) (n : Nat), v = .ref a ∧ h.get? a = some o ∧ o.cls = .type "tuple" ∧ o.data = .seq #[.int i t, u] n
theorem firstsE {h : Heap} {k : Value → Int} : ∀ vs : List Value, (∀ v ∈ vs, IsEnt h v (k v)) → ∃ fs : List Value, PySem.W.KatTups h vs fs ∧ fs.length = vs.length ∧ ∀ f ∈ fs, ∃ x t, f = Value.int x t
  | [], _ => ⟨[], PySem.W.KatTups.nil, rfl, fun f hf => nomatch hf⟩
  | v :: vs, x => by
    obtain ⟨fs, k1, hl, hi⟩ := firstsE (h := h) (k := k) vs fun u hu => x u (List.mem_cons_of_mem _ hu)
    obtain ⟨a, o, t, u, n, e, ho, hc, hd⟩ := x v (List.mem_cons_self ..)
    subst e
    refine ⟨.int (k (.ref a)) t :: fs, PySem.W.KatTups.cons ho hc hd rfl k1, congrArg Nat.succ hl, fun f hf => ?_⟩
    rcases List.mem_cons.mp hf with rfl | hf
    · exact ⟨_, _, rfl⟩
    · exact hi f hf
section
variable {prog : Program} {w : World} {A : Around} {s : Shared}
theorem ent_cmp {vs : List Value} {k : Value → Int} (hp : ∀ v ∈ vs, IsEnt s.heap v (k v)) (inj : ∀ v ∈ vs, ∀ u ∈ vs, k v = k u → v = u) : SrtO.Cmp prog w A s (tuples' true) (fun p => p.1 ∈ vs) (SrtO.lt2 fun v u => decide (k v < k u)) := by
  intro p q hm hm'
  have h1 := hp _ hm
  have h2 := hp _ hm'
  have hi := inj _ hm _ hm'
  show wpAny (model prog w) A (keyLt' (tuples' true) p.1 q.1) (fun r s' => s' = s ∧ r = decide (k p.1 < k q.1)) (fun _ _ => False) s
  generalize k p.1 = x at h1 hi ⊢
  generalize k q.1 = x' at h2 hi ⊢
  obtain ⟨a, o, t, u, n, e, ho, hc, hd⟩ := h1
  obtain ⟨a', o', t', u', n', e', ho', hc', hd'⟩ := h2
  rw [e, e']
  refine PySem.W.kat_lt ho hd ho' hd' ?_
  show PySem.W.KatLex prog w A true (decide (2 < 2)) _ [(.int x t, .int x' t'), (u, u')] 0 s
  refine PySem.W.kat_cons (SeqAt.EqAt.int_int x t x' t' prog w _ _ ?_)
  refine PySem.W.kat_go (fun e1 => ?_) (fun e1 => ?_)
  · have ex : x = x' := by simpa using e1
    have ev := hi ex
    rw [e, e'] at ev
    cases ev
    have eo : o = o' := Option.some.inj (ho.symm.trans ho')
    subst eo
    rw [hd] at hd'
    have eu : u = u' := by
      injection hd' with h1 h2
      have z := congrArg (fun (a : Array Value) => a[1]?) h1
      simpa using z
    subst eu
    refine PySem.W.kat_yes (PySem.W.kat_cons (SeqAt.EqAt.same u prog w _ _ ?_))
    refine PySem.W.kat_yes (PySem.W.kat_nil ⟨rfl, ?_⟩)
    rw [ex]
    exact (decide_eq_false (Int.lt_irrefl _)).symm
  · exact PySem.W.kat_no (oneLt_int ⟨rfl, rfl⟩)
theorem ents_sortable {a : Addr} {vs : List Value} {k : Value → Int} (h0 : 0 < vs.length) (hp : ∀ v ∈ vs, IsEnt s.heap v (k v)) (inj : ∀ v ∈ vs, ∀ u ∈ vs, k v = k u → v = u) (ha : ∀ o, s.heap.get? a = some o → o.cls ≠ .type "tuple") :
    SrtO.SortableO prog w A s a vs fun v u => decide (k v < k u) := by
  intro h' keep
  have hp' : ∀ v ∈ vs, IsEnt h' v (k v) := fun v hm => by
    obtain ⟨b, o, t, u, n, e, ho, hc, hd⟩ := hp v hm
    exact ⟨b, o, t, u, n, e, keep b o (fun z => by subst z; exact ha o ho hc) ho, hc, hd⟩
  obtain ⟨fs, h1, h2, h3⟩ := firstsE (h := h') (k := k) vs hp'
  refine ⟨tuples' true, fun Q E hq => ?_, ent_cmp hp' inj⟩
  refine PySem.W.kat_kind (T := .type "int") h1 (by omega) (fun f hm => ?_) (by rfl) ?_
  · obtain ⟨x, t, rfl⟩ := h3 f hm
    exact PySem.W.Looks.now
  · have e : (Value.type "int" != Value.type "tuple") = true := by first | decide +kernel | rfl | decide
    rw [e]
    exact hq
end
theorem pairs_at {P : Program} {w : World} : ∀ {es : List DictEntry} {vs : List (L2.Key × Value)}, Pairs (mixKind P w) es vs → ∀ (j : Nat) (e : DictEntry), es[j]? = some e → ∃ kv, vs[j]? = some kv ∧ keyIs kv.1 e.key = true ∧ e.val = kv.2
  | _, _, .nil, j, e, h => by simp at h
  | _, _, .cons h1 h2 r, 0, e, h => by
    cases h
    exact ⟨_, rfl, h1, h2⟩
  | _, _, .cons h1 h2 r, j + 1, e, h => pairs_at r j e h
theorem kv_at : ∀ {ks : List (Int × Addr)} {vs : List (L2.Key × Value)}, KV (ks.map entK) vs → ∀ (j : Nat) (kv : L2.Key × Value), vs[j]? = some kv → ∃ e, ks[j]? = some e ∧ kv = (Sum.inl e.1, Value.ref e.2)
  | [], _, h, j, kv, q => by
    cases h
    simp at q
  | e :: ks, _, h, j, kv, q => by
    cases h with
    | cons r rs =>
      cases j with
      | zero =>
        have q' := Option.some.inj q
        obtain ⟨r1, r2⟩ := r
        refine ⟨e, rfl, ?_⟩
        rw [← q']
        exact Prod.ext r1.symm r2
      | succ j => exact kv_at (ks := ks) rs j kv q
theorem cr_sortedItK (hc : X.calm = true) : CallR X (.builtin "sorted") rSortItK := by
  intro pins s σ H xs us Q I r h
  obtain ⟨p, a, ks, rfl, hp, ha, q⟩ := h
  obtain rfl := Vals.ref1 r
  have view : s.heap.IsItemsView p a := (show ObjOk X.prog X.w H s.heap p (DX.itemsO p a) from I.hok p _ hp).1
  obtain ⟨z, hd, vs', rel, o, es, ep, ho, hx, hdat, hko, hpairs, hnd⟩ := dk_of I.hok ha
  have l1 : (ks.map entK).length = vs'.length := Paired.length rel
  rw [List.length_map] at l1
  have l2 : es.size = vs'.length := by
    rw [← Pairs.length hpairs, Array.length_toList]
  rw [List.length_map] at z
  have hh : X.A.handled = none := I.ok.hd hc
  refine DT.sortedI (es := es) (ep := ep) hh view ⟨o, ho, hx, hdat⟩ (by omega) fun h' tk as hk hlt hl hG => ?_
  have lak : as.length = ks.length := by omega
  have nd : as.Nodup := List.Pairwise.imp (fun h => Nat.ne_of_lt h) hG.rise
  have pr : ∀ (j : Nat) (b : Addr), as[j]? = some b → ∃ (e : Int × Addr) (t : Tok), ks[j]? = some e ∧ h'.get? b = some { cls := .type "tuple", data := .seq #[Value.int e.1 t, Value.ref e.2] } := by
    intro j b hj
    obtain ⟨en, he, hg⟩ := hG.pairs j b hj
    obtain ⟨kv, h1, h2, h3⟩ := pairs_at hpairs j en (by rw [Array.getElem?_toList]; exact he)
    obtain ⟨e, h4, rfl⟩ := kv_at rel j kv h1
    rcases keyIs_shape h2 with ⟨i, t, e1, e2⟩ | ⟨i, t, e1, e2⟩
    · cases e1
      rw [e2, h3] at hg
      exact ⟨e, t, h4, hg⟩
    · cases e1
  have knd : (ks.map (·.1)).Nodup := by
    have e : vs'.map (·.1) = ks.map fun e => (Sum.inl e.1 : L2.Key) := by
      refine List.ext_getElem? fun j => ?_
      rw [List.getElem?_map, List.getElem?_map]
      cases hv : vs'[j]? with
      | none =>
        have : ks[j]? = none := List.getElem?_eq_none (by rw [l1]; exact List.getElem?_eq_none_iff.mp hv)
        rw [this]
        rfl
      | some kv =>
        obtain ⟨e, h4, rfl⟩ := kv_at rel j kv hv
        rw [h4]
        rfl
    rw [e] at hnd
    exact List.pairwise_map.mpr (List.Pairwise.imp (fun {x y} h z => h (congrArg Sum.inl z)) (List.pairwise_map.mp hnd))
  have hob : (h'.push { cls := .type "list", data := .seq (as.map Value.ref).toArray }).get? h'.objs.size = some (seqObj "list" (as.map Value.ref).toArray 0) := Heap.get?_push_size _ rfl
  have kb : ∀ b o, s.heap.get? b = some o → (h'.push { cls := .type "list", data := .seq (as.map Value.ref).toArray }).get? b = some o := fun b o e => Heap.get?_push_of_some _ (hk b o e)
  have ne0 : ∀ b o, h'.get? b = some o → b ≠ h'.objs.size := fun b o e => Nat.ne_of_lt (Heap.lt_size e)
  generalize hh2 : h'.push { cls := .type "list", data := .seq (as.map Value.ref).toArray } = h2 at hob kb ⊢
  have ka : ∀ b o, h'.get? b = some o → h2.get? b = some o := fun b o e => by rw [← hh2]; exact Heap.get?_push_of_some _ e
  have at_ : ∀ v ∈ as.map Value.ref, ∃ (j : Nat) (b : Addr) (e : Int × Addr) (t : Tok), v = .ref b ∧ as[j]? = some b ∧ ks[j]? = some e ∧ h'.get? b = some { cls := .type "tuple", data := .seq #[Value.int e.1 t, Value.ref e.2] } := by
    intro v hv'
    obtain ⟨b, hb, rfl⟩ := List.mem_map.mp hv'
    obtain ⟨j, hj⟩ := List.mem_iff_getElem?.mp hb
    obtain ⟨e, t, he, hg⟩ := pr j b hj
    exact ⟨j, b, e, t, rfl, hj, he, hg⟩
  have kf : ∀ (b : Addr) (e : Int × Addr) (t : Tok), h'.get? b = some { cls := .type "tuple", data := .seq #[Value.int e.1 t, Value.ref e.2] } → kfI h' (.ref b) = e.1 := fun b e t hg => kfI_of hg rfl
  have ent : ∀ v ∈ as.map Value.ref, IsEnt h2 v (kfI h' v) := by
    intro v hv
    obtain ⟨j, b, e, t, rfl, _, _, hg⟩ := at_ v hv
    exact ⟨b, _, t, .ref e.2, 0, rfl, ka _ _ hg, rfl, by rw [kf b e t hg]⟩
  have inj : ∀ v ∈ as.map Value.ref, ∀ u ∈ as.map Value.ref, kfI h' v = kfI h' u → v = u := by
    intro v hv u hu hvu
    obtain ⟨j, b, e, t, rfl, j1, j2, hg⟩ := at_ v hv
    obtain ⟨i, c, f, t', rfl, i1, i2, hg'⟩ := at_ u hu
    rw [kf b e t hg, kf c f t' hg'] at hvu
    have ej : (ks.map (·.1))[j]? = some e.1 := by rw [List.getElem?_map, j2]; rfl
    have ei : (ks.map (·.1))[i]? = some e.1 := by rw [List.getElem?_map, i2, hvu]; rfl
    have eij : j = i := (List.getElem?_inj (List.getElem?_eq_some_iff.mp ej).1 knd).mp (ej.trans ei.symm)
    subst eij
    rw [i1] at j1
    cases j1
    rfl
  refine wpAny_call_entry PyProof.Rows.slot_list_sort ⟨_, hob, rfl⟩ PyProof.Rows.entry_list_sort
    (SrtO.list_sort_ord (s := { s with heap := h2, toks := tk }) (swo_int (kfI h')) hob (by rw [List.length_map]; omega) (fun h2' => ents_sortable (s := { s with heap := h2, toks := tk }) (by omega) ent inj fun o e => ?_) fun out o1 o2 => ⟨.none, rfl, ?_⟩) (PyProof.Rows.args_list_sort _)
  · have e' : some o = some (seqObj "list" (as.map Value.ref).toArray 0) := e.symm.trans hob
    cases e'
    intro c
    exact absurd (Value.type.inj c) (by decide)
  · show EP X pins σ Q (.ref h'.objs.size) { s with heap := sortedHeap h2 h'.objs.size (as.map Value.ref) out.toArray, toks := tk }
    obtain ⟨zs, pz, ez⟩ := perm_lift (fun z : Addr × Int × Addr => Value.ref z.1) o2.perm (as.zip ks) (by
      rw [show (fun z : Addr × Int × Addr => Value.ref z.1) = Value.ref ∘ Prod.fst from rfl, ← List.map_map, List.map_fst_zip (by omega)])
    have idx : ∀ z ∈ zs, ∃ j : Nat, as[j]? = some z.1 ∧ ks[j]? = some z.2 := by
      intro z' hz'
      obtain ⟨j, hj⟩ := List.mem_iff_getElem?.mp (pz.mem_iff.mp hz')
      exact ⟨j, List.getElem?_zip_eq_some.mp hj⟩
    have hperm : (zs.map (·.2)).Perm ks := by
      have e := pz.map (·.2)
      have m2 : (as.zip ks).map (·.2) = ks := List.map_snd_zip (by rw [lak]; exact Nat.le_refl _)
      rw [m2] at e
      exact e
    have kz : ∀ z ∈ zs, kfI h' (.ref z.1) = z.2.1 := fun z hz => by
      obtain ⟨j, j1, j2⟩ := idx z hz
      obtain ⟨e, t, he, hg⟩ := pr j _ j1
      rw [kf _ e t hg]
      rw [he] at j2
      cases j2
      rfl
    have hsort : (zs.map (·.2)).Pairwise (fun e f => e.1 < f.1) := by
      have le : (zs.map (·.2)).Pairwise (fun e f => e.1 ≤ f.1) := by
        have o1' : out.Pairwise (fun v u => decide (kfI h' u < kfI h' v) = false) := o1
        rw [← ez, List.pairwise_map] at o1'
        rw [List.pairwise_map]
        refine List.Pairwise.imp_of_mem (fun {x y} hx hy h => ?_) o1'
        have h2 := of_decide_eq_false h
        rw [kz x hx, kz y hy] at h2
        omega
      have ne : (zs.map (·.2)).Pairwise (fun e f => e.1 ≠ f.1) := by
        have n1 : ((zs.map (·.2)).map (·.1)).Nodup := (hperm.map (·.1)).nodup_iff.mpr knd
        exact List.pairwise_map.mp n1
      exact List.Pairwise.imp (fun {x y} h => by have := h.1; have := h.2; omega) (List.Pairwise.and le ne)
    have kF : ∀ b o, b ≠ h'.objs.size → h2.get? b = some o → (sortedHeap h2 h'.objs.size (as.map Value.ref) out.toArray).get? b = some o := fun b o hb e => (PyProof.Rows.sortedHeap_old hb (Heap.lt_size e)).trans e
    have kS : ∀ b o, s.heap.get? b = some o → (sortedHeap h2 h'.objs.size (as.map Value.ref) out.toArray).get? b = some o := fun b o e => kF b o (ne0 _ _ (hk b o e)) (kb b o e)
    obtain ⟨eF, heF⟩ := PyProof.Rows.sortedHeap_at (vs := as.map Value.ref) (out := out.toArray) hob
    have I1 : Inv X pins σ H { s with heap := sortedHeap h2 h'.objs.size (as.map Value.ref) out.toArray, toks := tk } := I.kept (t' := tk) kS
    have hn0 : H h'.objs.size = none := I.hok.fresh (Nat.le_of_lt hlt)
    have hlen : (zs.map fun z => V.ref z.1).length ≤ sizeLine := by
      have e := hperm.length_eq
      rw [List.length_map] at e
      rw [List.length_map]
      omega
    have rv : Vals (zs.map fun z => V.ref z.1) out := by
      rw [← ez]
      exact vals_maps (fun z : Addr × Int × Addr => V.ref z.1) (fun z => Value.ref z.1) zs fun _ _ => rfl
    have I2 : Inv X pins σ (upd H h'.objs.size (.lst (zs.map fun z => V.ref z.1))) { s with heap := sortedHeap h2 h'.objs.size (as.map Value.ref) out.toArray, toks := tk } :=
      I1.take (h' := sortedHeap h2 h'.objs.size (as.map Value.ref) out.toArray) (t' := tk) (fun b ob _ e => e) (I.fpOk (Nat.le_of_lt hlt) hn0) ⟨hlen, out, eF, rv, heF⟩
    obtain ⟨H2, I3, g, qt⟩ := DX.takeT (P := fun b vs => ∃ (j : Nat) (e : Int × Addr), as[j]? = some b ∧ ks[j]? = some e ∧ vs = [.int e.1, .ref e.2]) I as _ I2 nd fun b hb => by
      obtain ⟨j, hj⟩ := List.mem_iff_getElem?.mp hb
      obtain ⟨e, t, he, hg⟩ := pr j b hj
      have hbl : s.heap.objs.size ≤ b := Nat.le_of_lt (hG.above b hb)
      refine ⟨hbl, ?_, [.int e.1, .ref e.2], ⟨j, e, hj, he, rfl⟩, fun H3 => ⟨(by rw [sizeLine_eq]; show 2 ≤ 16777216; omega), [Value.int e.1 t, Value.ref e.2], .cons ⟨t, rfl⟩ (.cons rfl .nil), ⟨_, kF _ _ (ne0 _ _ hg) (ka _ _ hg), rfl, 0, rfl⟩⟩⟩
      rw [upd_ne (ne0 _ _ hg)]
      exact I.hok.fresh hbl
    have gr : ∀ b o, H b = some o → H2 b = some o := fun b o e => g b o (by rw [upd_ne (ne_of_none e hn0)]; exact e)
    refine ⟨.ref h'.objs.size, H2, I3, rfl, q H2 h'.objs.size zs gr hn0 hperm hsort (g _ _ upd_same) fun z' hz' => ?_⟩
    obtain ⟨i, i1, i2⟩ := idx z' hz'
    obtain ⟨vs, ⟨j, e, j1, j2, ev⟩, hH⟩ := qt z'.1 (List.mem_of_getElem? i1)
    have eij : i = j := (List.getElem?_inj (List.getElem?_eq_some_iff.mp i1).1 nd).mp (i1.trans j1.symm)
    subst eij
    have ee : e = z'.2 := Option.some.inj (j2.symm.trans i2)
    rw [ev, ee] at hH
    exact hH
end
end HS

/-! ### shapes, trees: plain mathematics, and what stands for them in a heap -/
namespace TR
open PySem PySem.Spec PyProof.Rows L2 HX
def Sh : Nat → Type
  | 0 => Nat
  | l + 1 => List (Sh l)
def Sh.n (s : Sh 0) : Nat := s
def Sh.ks {l : Nat} (s : Sh (l + 1)) : List (Sh l) := s
def cntS : (l : Nat) → Sh l → Nat
  | 0, n => n
  | l + 1, ks => (ks.ks.map (cntS l)).sum
def pgsS : (l : Nat) → Sh l → Nat
  | 0, _ => 1
  | l + 1, ks => 1 + (ks.ks.map (pgsS l)).sum
def loS (room l : Nat) (top : Bool) : Nat := if top = true then (if l = 0 then 0 else 2) else (room + 1) / 2
def WfSh (room : Nat) : (l : Nat) → Bool → Sh l → Prop
  | 0, top, n => loS room 0 top ≤ n.n ∧ n.n ≤ room
  | l + 1, top, ks => loS room (l + 1) top ≤ ks.ks.length ∧ ks.ks.length ≤ room ∧ ∀ k ∈ ks.ks, WfSh room l false k
/-- how many pages at most -/
def cS (room : Nat) : Nat → Nat
  | 0 => 1
  | l + 1 => 1 + room * cS room l
theorem sum_le {α : Type} {f : α → Nat} {c : Nat} : ∀ {xs : List α}, (∀ x ∈ xs, f x ≤ c) → (xs.map f).sum ≤ xs.length * c
  | [], _ => Nat.zero_le _
  | x :: xs, h => by
    have a := h x (List.mem_cons_self ..)
    have b := sum_le (f := f) (c := c) (xs := xs) fun y hy => h y (List.mem_cons_of_mem _ hy)
    rw [List.map_cons, List.sum_cons, List.length_cons, Nat.succ_mul]
    omega
theorem pgs_le {room : Nat} : ∀ {l : Nat} {top : Bool} {s : Sh l}, WfSh room l top s → pgsS l s ≤ cS room l
  | 0, _, _, _ => Nat.le_refl 1
  | l + 1, _, s, h => by
    obtain ⟨_, h2, h3⟩ := h
    have a := sum_le (f := pgsS l) (c := cS room l) (xs := s.ks) fun k hk => pgs_le (h3 k hk)
    have b : s.ks.length * cS room l ≤ room * cS room l := Nat.mul_le_mul_right _ h2
    show 1 + (s.ks.map (pgsS l)).sum ≤ 1 + room * cS room l
    omega
theorem cnt_le {room : Nat} : ∀ {l : Nat} {top : Bool} {s : Sh l}, WfSh room l top s → cntS l s ≤ room * cS room l
  | 0, _, s, h => by
    have := h.2
    show s.n ≤ room * 1
    omega
  | l + 1, _, s, h => by
    obtain ⟨_, h2, h3⟩ := h
    have a := sum_le (f := cntS l) (c := room * cS room l) (xs := s.ks) fun k hk => cnt_le (h3 k hk)
    have b : s.ks.length * (room * cS room l) ≤ room * (room * cS room l) := Nat.mul_le_mul_right _ h2
    show (s.ks.map (cntS l)).sum ≤ room * (1 + room * cS room l)
    rw [Nat.mul_add]
    omega
/-! ### in the heap -/
/-- tuples never change -/
def tpb : HO → Bool
  | .tup _ => true
  | .frz _ (.tup _) => true
  | _ => false
structure Keep (H H' : Hp) : Prop where
  all : ∀ b u, tpb u = true → H b = some u → H' b = some u
instance {H H' : Hp} : CoeFun (Keep H H') (fun _ => ∀ b xs, H b = some (.tup xs) → H' b = some (.tup xs)) := ⟨fun k b _ h => k.all b _ rfl h⟩
theorem Keep.frz {H H' : Hp} (k : Keep H H') {b : Addr} {o : Obj} {xs : List V} (h : H b = some (.frz o (.tup xs))) : H' b = some (.frz o (.tup xs)) := k.all b _ rfl h
theorem Keep.refl (H : Hp) : Keep H H := ⟨fun _ _ _ h => h⟩
theorem Keep.trans {H H1 H2 : Hp} (a : Keep H H1) (b : Keep H1 H2) : Keep H H2 := ⟨fun c u t h => b.all c u t (a.all c u t h)⟩
theorem Keep.of {H H' : Hp} (s : Same H H') : Keep H H' := ⟨fun b u _ h => s b _ h⟩
theorem tpb_no {H : Hp} {p : Addr} (h : ∀ u, H p = some u → tpb u = false) {b : Addr} {u : HO} (t : tpb u = true) (e : H b = some u) : b ≠ p := fun z => by
  subst z
  rw [h u e] at t
  cases t
theorem Keep.but {H H' : Hp} {p : Addr} (s : But p H H') (h : ∀ u, H p = some u → tpb u = false) : Keep H H' := ⟨fun b u t e => s b _ (tpb_no h t e) e⟩
theorem Keep.upd {H H' : Hp} {p : Addr} {o : HO} (s : Keep H H') (h : ∀ u, H' p = some u → tpb u = false) : Keep H (upd H' p o) := ⟨fun b u t e => by
  have z := s.all b u t e
  rw [upd_ne (tpb_no h t z)]
  exact z⟩
def ShAt (H : Hp) : (l : Nat) → V → Sh l → Prop
  | 0, v, n => v = .int (n.n : Int)
  | l + 1, v, ks => ∃ (a : Addr) (xs : List V), v = .ref a ∧ H a = some (.tup xs) ∧ Paired (ShAt H l) xs ks.ks
theorem paired_imp {α β : Type} {R R' : α → β → Prop} (h : ∀ x y, R x y → R' x y) : ∀ {xs : List α} {ys : List β}, Paired R xs ys → Paired R' xs ys
  | _, _, .nil => .nil
  | _, _, .cons r rs => .cons (h _ _ r) (paired_imp h rs)
theorem paired_snoc {α β : Type} {R : α → β → Prop} {x : α} {y : β} (h : R x y) : ∀ {xs : List α} {ys : List β}, Paired R xs ys → Paired R (xs ++ [x]) (ys ++ [y])
  | _, _, .nil => .cons h .nil
  | _, _, .cons r rs => .cons r (paired_snoc h rs)
theorem pget1 {α β : Type} {R : α → β → Prop} : ∀ {xs : List α} {ys : List β}, Paired R xs ys → ∀ {i : Nat} {x : α}, xs[i]? = some x → ∃ y, ys[i]? = some y ∧ R x y
  | _, _, .nil, i, x, h => by simp at h
  | _, _, .cons r rs, 0, x, h => by
    cases h
    exact ⟨_, rfl, r⟩
  | _, _, .cons r rs, i + 1, x, h => pget1 rs (i := i) h
theorem pget2 {α β : Type} {R : α → β → Prop} : ∀ {xs : List α} {ys : List β}, Paired R xs ys → ∀ {i : Nat} {y : β}, ys[i]? = some y → ∃ x, xs[i]? = some x ∧ R x y
  | _, _, .nil, i, x, h => by simp at h
  | _, _, .cons r rs, 0, x, h => by
    cases h
    exact ⟨_, rfl, r⟩
  | _, _, .cons r rs, i + 1, x, h => pget2 rs (i := i) h
theorem ShAt.keep {H H' : Hp} (k : Keep H H') : ∀ {l : Nat} {v : V} {s : Sh l}, ShAt H l v s → ShAt H' l v s
  | 0, _, _, h => h
  | l + 1, _, _, h => by
    obtain ⟨a, xs, rfl, h1, h2⟩ := h
    exact ⟨a, xs, rfl, k _ _ h1, paired_imp (fun _ _ r => ShAt.keep k r) h2⟩
/-- a pair of whole numbers -/
def PrAt (H : Hp) (x : V) (p : Int × Int) : Prop := ∃ t : Addr, x = .ref t ∧ H t = some (.tup [.int p.1, .int p.2])
theorem PrAt.keep {H H' : Hp} (k : Keep H H') {x : V} {p : Int × Int} (h : PrAt H x p) : PrAt H' x p := by
  obtain ⟨t, e, h1⟩ := h
  exact ⟨t, e, k _ _ h1⟩
end TR

/-! ### trees of pages: plain mathematics -/
namespace TR
open PySem PySem.Spec PyProof.Rows L2 HX
inductive Pg where
  | leaf (ps : List (Int × Int)) (nx : Int)
  | node (ks kids : List Int)
def lkp (D : List (Int × Pg)) (k : Int) : Option Pg := (D.find? fun q => decide (q.1 = k)).map (·.2)
theorem lkp_none {D : List (Int × Pg)} {k : Int} (h : ∀ q ∈ D, q.1 ≠ k) : lkp D k = none := by
  unfold lkp
  rw [List.find?_eq_none.mpr (fun q hq => by simpa using h q hq)]
  rfl
theorem lkp_ne {D : List (Int × Pg)} {k : Int} (h : lkp D k = none) : ∀ q ∈ D, q.1 ≠ k := by
  unfold lkp at h
  intro q hq e
  have z : (D.find? fun q => decide (q.1 = k)) = none := by
    cases c : D.find? fun q => decide (q.1 = k) with
    | none => rfl
    | some x => rw [c] at h; cases h
  have := List.find?_eq_none.mp z q hq
  exact this (decide_eq_true e)
theorem lkp_keep {D D' : List (Int × Pg)} {k : Int} {x : Pg} (h : lkp D k = some x) : lkp (D ++ D') k = some x := by
  unfold lkp at h ⊢
  rw [List.find?_append]
  cases c : D.find? fun q => decide (q.1 = k) with
  | none => rw [c] at h; cases h
  | some y => rw [c] at h; exact h
theorem lkp_end {D : List (Int × Pg)} {k : Int} {x : Pg} (h : lkp D k = none) : lkp (D ++ [(k, x)]) k = some x := by
  unfold lkp at h ⊢
  rw [List.find?_append]
  cases c : D.find? fun q => decide (q.1 = k) with
  | none =>
    simp
  | some y => rw [c] at h; cases h
def Tr : Nat → Type
  | 0 => Int × List (Int × Int)
  | l + 1 => Int × List Int × List (Tr l)
def lfT (n : Int) (ps : List (Int × Int)) : Tr 0 := (n, ps)
def ndT {l : Nat} (n : Int) (ks : List Int) (kids : List (Tr l)) : Tr (l + 1) := (n, ks, kids)
def Tr.ps (t : Tr 0) : List (Int × Int) := Prod.snd t
def Tr.keys {l : Nat} (t : Tr (l + 1)) : List Int := Prod.fst (Prod.snd t)
def Tr.kids {l : Nat} (t : Tr (l + 1)) : List (Tr l) := Prod.snd (Prod.snd t)
def num : (l : Nat) → Tr l → Int
  | 0, t => Prod.fst t
  | _ + 1, t => Prod.fst t
def nums : (l : Nat) → Tr l → List Int
  | 0, t => [num 0 t]
  | l + 1, t => num (l + 1) t :: t.kids.flatMap (nums l)
def prs : (l : Nat) → Tr l → List (Int × Int)
  | 0, t => t.ps
  | l + 1, t => t.kids.flatMap (prs l)
def shp : (l : Nat) → Tr l → Sh l
  | 0, t => t.ps.length
  | l + 1, t => t.kids.map (shp l)
def Laid (D : List (Int × Pg)) : (l : Nat) → Tr l → Prop
  | 0, t => ∃ nx, lkp D (num 0 t) = some (.leaf t.ps nx)
  | l + 1, t => lkp D (num (l + 1) t) = some (.node t.keys (t.kids.map (num l))) ∧ ∀ k ∈ t.kids, Laid D l k
theorem Laid.more {D D' : List (Int × Pg)} : ∀ {l : Nat} {t : Tr l}, Laid D l t → Laid (D ++ D') l t
  | 0, _, ⟨nx, h⟩ => ⟨nx, lkp_keep h⟩
  | _ + 1, _, ⟨h, g⟩ => ⟨lkp_keep h, fun k hk => (g k hk).more⟩
/-- keys between kids -/
def KBs {α : Type} (R : α → Int → Int → Prop) : Int → List Int → List α → Int → Prop
  | lo, [], [k], hi => R k lo hi
  | lo, a :: ks, k :: kids, hi => R k lo a ∧ KBs R a ks kids hi
  | _, _, _, _ => False
theorem KBs.snoc {α : Type} {R : α → Int → Int → Prop} {a hi : Int} {x : α} (hx : R x a hi) : ∀ {kids : List α} {ks : List Int} {lo : Int}, KBs R lo ks kids a → KBs R lo (ks ++ [a]) (kids ++ [x]) hi
  | [], ks, _, h => by cases ks <;> exact h.elim
  | [k], [], _, h => ⟨h, hx⟩
  | _ :: _ :: _, [], _, h => h.elim
  | k :: kids, b :: ks, _, h => ⟨h.1, KBs.snoc hx h.2⟩
theorem KBs.len {α : Type} {R : α → Int → Int → Prop} {hi : Int} : ∀ {kids : List α} {ks : List Int} {lo : Int}, KBs R lo ks kids hi → ks.length + 1 = kids.length
  | [], ks, _, h => by cases ks <;> exact h.elim
  | [k], [], _, h => rfl
  | _ :: _ :: _, [], _, h => h.elim
  | k :: kids, b :: ks, _, h => by
    have := KBs.len h.2
    simp only [List.length_cons]
    omega
/-- the pairs lie from lo on, below hi; keys between -/
def KeyB : (l : Nat) → Tr l → Int → Int → Prop
  | 0, t, lo, hi => ∀ q ∈ t.ps, lo ≤ q.1 ∧ q.1 < hi
  | l + 1, t, lo, hi => KBs (KeyB l) lo t.keys t.kids hi
/-- keys of nodes as they have to be -/
def KeyOk : (l : Nat) → Tr l → Prop
  | 0, _ => True
  | l + 1, t => t.keys.Pairwise (· < ·) ∧ (∀ k ∈ t.keys, 0 ≤ k ∧ k ≤ 1000000000) ∧ t.keys.length + 1 = t.kids.length ∧ ∀ k ∈ t.kids, KeyOk l k
/-- first comes the greater one -/
def Above (ps : List (Int × Int)) (x : Int) : Prop := ∀ q ∈ ps, x < q.1
def Below (ps : List (Int × Int)) (x : Int) : Prop := ∀ q ∈ ps, q.1 ≤ x
def All (lo hi : Int) (ps : List (Int × Int)) : Prop := ∀ q ∈ ps, lo ≤ q.1 ∧ q.1 < hi
theorem take_add' {α : Type} (xs : List α) (a b : Nat) : xs.take (a + b) = xs.take a ++ (xs.drop a).take b := by
  rw [List.take_add]
theorem cnt_pos {room : Nat} (hr : 3 ≤ room) : ∀ {l : Nat} {s : Sh l}, WfSh room l false s → 0 < cntS l s
  | 0, s, h => by
    have := h.1
    have e : loS room 0 false = (room + 1) / 2 := rfl
    rw [e] at this
    show 0 < s.n
    omega
  | l + 1, s, h => by
    obtain ⟨h1, h2, h3⟩ := h
    have e : loS room (l + 1) false = (room + 1) / 2 := rfl
    rw [e] at h1
    show 0 < (s.ks.map (cntS l)).sum
    cases c : s.ks with
    | nil =>
      rw [c] at h1
      simp only [List.length_nil] at h1
      omega
    | cons k ks =>
      have := cnt_pos hr (h3 k (by rw [c]; exact List.mem_cons_self ..))
      rw [List.map_cons, List.sum_cons]
      omega
theorem sum_more {α : Type} (f : α → Nat) {xs : List α} {i : Nat} {x : α} (h : xs[i]? = some x) : ((xs.take (i + 1)).map f).sum = ((xs.take i).map f).sum + f x := by
  rw [take_more h, List.map_append, List.sum_append]
  simp
theorem sum_part {α : Type} (f : α → Nat) (xs : List α) (i : Nat) : ((xs.take i).map f).sum ≤ (xs.map f).sum := by
  conv => rhs; rw [← List.take_append_drop i xs]
  rw [List.map_append, List.sum_append]
  omega
theorem sum_part1 {α : Type} (f : α → Nat) {xs : List α} {i : Nat} {x : α} (h : xs[i]? = some x) : ((xs.take i).map f).sum + f x ≤ (xs.map f).sum := by
  rw [← sum_more f h]
  exact sum_part f xs (i + 1)
theorem paired_take {α β : Type} {R : α → β → Prop} : ∀ {xs : List α} {ys : List β} (n : Nat), Paired R xs ys → Paired R (xs.take n) (ys.take n)
  | _, _, 0, _ => by rw [List.take_zero, List.take_zero]; exact .nil
  | _, _, _ + 1, .nil => .nil
  | _, _, n + 1, .cons r rs => .cons r (paired_take n rs)
theorem paired_drop {α β : Type} {R : α → β → Prop} : ∀ {xs : List α} {ys : List β} (n : Nat), Paired R xs ys → Paired R (xs.drop n) (ys.drop n)
  | _, _, 0, h => h
  | _, _, _ + 1, .nil => .nil
  | _, _, n + 1, .cons r rs => paired_drop n rs
theorem last_pick (last : Int) (qs : List (Int × Int)) (hs : qs.Pairwise fun a b => a.1 < b.1) (ha : Above qs last) : ∃ z, atI ([V.int last] ++ qs.map (fun q => V.int q.1)) (-1) = some (.int z) ∧ Below qs z ∧ last ≤ z ∧ (z = last ∨ ∃ q ∈ qs, z = q.1) := by
  rcases List.eq_nil_or_concat qs with rfl | ⟨r, q, rfl⟩
  · exact ⟨last, rfl, (fun q hq => nomatch hq), Int.le_refl _, .inl rfl⟩
  · rw [List.concat_eq_append] at hs ha ⊢
    have hm : q ∈ r ++ [q] := List.mem_append_right _ (List.mem_singleton.mpr rfl)
    refine ⟨q.1, ?_, fun y hy => ?_, Int.le_of_lt (ha q hm), .inr ⟨q, hm, rfl⟩⟩
    · refine at_last (n := r.length + 1) (by simp) ?_
      rw [List.map_append, ← List.append_assoc, List.getElem?_append_right (by simp)]
      simp
    · rcases List.mem_append.mp hy with hy | hy
      · exact Int.le_of_lt ((List.pairwise_append.mp hs).2.2 y hy q (List.mem_singleton.mpr rfl))
      · obtain rfl := List.mem_singleton.mp hy
        exact Int.le_refl _
/-- what is laid when a shape is gone through -/
structure Gen (l : Nat) (s : Sh l) (t : Tr l) (ps : List (Int × Int)) (ns : List Int) (D D' : List (Int × Pg)) (last last' : Int) : Prop where
  shape : shp l t = s
  pairs : prs l t = ps.take (cntS l s)
  number : nums l t = ns.take (pgsS l s)
  keys : (D'.map (·.1)).Perm (nums l t)
  laid : Laid (D ++ D') l t
  keyB : ∀ lo hi, All lo hi (ps.take (cntS l s)) → KeyB l t lo hi
  keyOk : KeyOk l t
  below : Below (ps.take (cntS l s)) last'
  above : Above (ps.drop (cntS l s)) last'
  le : last ≤ last'
  le9 : last' ≤ 1000000000
theorem Gen.num_head {l : Nat} {s : Sh l} {t : Tr l} {ps : List (Int × Int)} {ns : List Int} {D D' : List (Int × Pg)} {last last' : Int} (_ : Gen l s t ps ns D D' last last') : ∃ r, nums l t = num l t :: r := by
  cases l with
  | zero => exact ⟨[], rfl⟩
  | succ l => exact ⟨_, rfl⟩
/-! ### lists of whole numbers as data -/
theorem dpa_ints {K : PySem.W.Frag} {H : Hp} : ∀ ns : List Int, DpAll K H (ns.map V.int) (ns.map PyData.int)
  | [] => .nil
  | n :: ns => .cons (.int n) (dpa_ints ns)
theorem lay_ints : ∀ ns : List Int, PyData.canLayAll0 (ns.map PyData.int) = true
  | [] => by simp only [List.map_nil, PyData.canLayAll0]
  | n :: ns => by simp only [List.map_cons, PyData.canLayAll0, PyData.canLay0, lay_ints ns, Bool.and_self]
theorem deep_ints : ∀ ns : List Int, PyData.depthAll (ns.map PyData.int) = 0
  | [] => by simp only [List.map_nil, PyData.depthAll]
  | n :: ns => by simp only [List.map_cons, PyData.depthAll, PyData.depth, deep_ints ns, Nat.max_self]
theorem shaped_ints (ns : List Int) : SeqAt.shaped (.list (ns.map PyData.int)) = true := by
  unfold SeqAt.shaped
  simp only [PyData.canLay0, lay_ints ns, PyData.depth, deep_ints ns]
  decide
theorem eqv_intsA : ∀ a b : List Int, PyData.eqvAll (a.map PyData.int) (b.map PyData.int) = decide (a = b)
  | [], [] => by simp only [List.map_nil, PyData.eqvAll]; rfl
  | [], _ :: _ => by simp only [List.map_nil, List.map_cons, PyData.eqvAll]; rfl
  | _ :: _, [] => by simp only [List.map_nil, List.map_cons, PyData.eqvAll]; rfl
  | x :: a, y :: b => by
    simp only [List.map_cons, PyData.eqvAll, PyData.eqv, eqv_intsA a b]
    by_cases e : x = y
    · subst e
      simp
    · simp [e]
theorem eqv_ints (a b : List Int) : PyData.eqv (.list (a.map PyData.int)) (.list (b.map PyData.int)) = decide (a = b) := by
  simp only [PyData.eqv, eqv_intsA]
/-- the first kids -/
structure Mid (l : Nat) (s : List (Sh l)) (i : Nat) (ts : List (Tr l)) (ks : List Int) (ps : List (Int × Int)) (ns : List Int) (D D' : List (Int × Pg)) (last last' : Int) : Prop where
  shapes : ts.map (shp l) = s.take i
  pairs : ts.flatMap (prs l) = ps.take ((s.take i).map (cntS l)).sum
  number : ts.flatMap (nums l) = ns.take ((s.take i).map (pgsS l)).sum
  perm : (D'.map (·.1)).Perm (ts.flatMap (nums l))
  laid : ∀ t ∈ ts, Laid (D ++ D') l t
  kb : ∀ lo hi, i ≠ 0 → All lo hi (ps.take ((s.take i).map (cntS l)).sum) → KBs (KeyB l) lo ks ts hi
  empty : i = 0 → ks = []
  rising : ks.Pairwise (· < ·)
  range : ∀ x ∈ ks, 0 ≤ x ∧ x ≤ last'
  keyOk : ∀ t ∈ ts, KeyOk l t
  below : Below (ps.take ((s.take i).map (cntS l)).sum) last'
  above : Above (ps.drop ((s.take i).map (cntS l)).sum) last'
  le : last ≤ last'
  last0 : -1 ≤ last
  le9 : last' ≤ 1000000000
  few : ks.length ≤ i
theorem Mid.zero {l : Nat} {s : List (Sh l)} {ps : List (Int × Int)} {ns : List Int} {D : List (Int × Pg)} {last : Int} (ha : Above ps last) (h0 : -1 ≤ last) (h9 : last ≤ 1000000000) : Mid l s 0 [] [] ps ns D [] last last :=
  ⟨rfl, rfl, rfl, .nil, (fun _ h => nomatch h), (fun _ _ h => (h rfl).elim), fun _ => rfl, .nil, (fun _ h => nomatch h), (fun _ h => nomatch h), (fun _ h => nomatch h), ha, Int.le_refl _, h0, h9, Nat.le_refl _⟩
theorem Mid.step {l : Nat} {s : List (Sh l)} {i : Nat} {ts : List (Tr l)} {ks ks' : List Int} {ps : List (Int × Int)} {ns : List Int} {D D' D5 : List (Int × Pg)} {last last' last5 : Int} {k : Sh l} {t : Tr l}
    (h : Mid l s i ts ks ps ns D D' last last') (hk : s[i]? = some k)
    (hks : (i = 0 ∧ ks' = []) ∨ (i ≠ 0 ∧ ∃ a, ks' = ks ++ [a] ∧ last' < a ∧ ∀ q ∈ ps.drop ((s.take i).map (cntS l)).sum, a ≤ q.1))
    (g : Gen l k t (ps.drop ((s.take i).map (cntS l)).sum) (ns.drop ((s.take i).map (pgsS l)).sum) (D ++ D') D5 last' last5)
    (cp : 0 < cntS l k) (hm : ((s.take i).map (cntS l)).sum + cntS l k ≤ ps.length) : Mid l s (i + 1) (ts ++ [t]) ks' ps ns D (D' ++ D5) last last5 := by
  have le : last' ≤ last5 := g.le
  have ec := sum_more (cntS l) hk
  have ep := sum_more (pgsS l) hk
  have et : ps.take ((s.take (i + 1)).map (cntS l)).sum = ps.take ((s.take i).map (cntS l)).sum ++ (ps.drop ((s.take i).map (cntS l)).sum).take (cntS l k) := by rw [ec, List.take_add]
  have en : ns.take ((s.take (i + 1)).map (pgsS l)).sum = ns.take ((s.take i).map (pgsS l)).sum ++ (ns.drop ((s.take i).map (pgsS l)).sum).take (pgsS l k) := by rw [ep, List.take_add]
  have ed : ps.drop ((s.take (i + 1)).map (cntS l)).sum = (ps.drop ((s.take i).map (cntS l)).sum).drop (cntS l k) := by rw [ec, List.drop_drop]
  refine ⟨?_, ?_, ?_, ?_, ?_, ?_, ?_, ?_, ?_, ?_, ?_, ?_, Int.le_trans h.le le, h.last0, g.le9, ?_⟩
  · rw [List.map_append, h.shapes, take_more hk, ← g.shape]
    rfl
  · rw [List.flatMap_append, h.pairs, et, ← g.pairs]
    simp
  · rw [List.flatMap_append, h.number, en, ← g.number]
    simp
  · rw [List.map_append, List.flatMap_append]
    refine h.perm.append ?_
    rw [show [t].flatMap (nums l) = nums l t by simp]
    exact g.keys
  · intro u hu
    rw [← List.append_assoc]
    rcases List.mem_append.mp hu with hu | hu
    · exact (h.laid u hu).more
    · obtain rfl := List.mem_singleton.mp hu
      exact g.laid
  · intro lo hi _ hall
    rw [et] at hall
    rcases hks with ⟨e, rfl⟩ | ⟨e, a, rfl, h1, h2⟩
    · have : ts = [] := by
        have z := congrArg List.length h.shapes
        rw [List.length_map, e, List.take_zero] at z
        exact List.eq_nil_of_length_eq_zero z
      subst this
      exact g.keyB lo hi fun q hq => hall q (List.mem_append_right _ hq)
    · refine KBs.snoc (g.keyB a hi fun q hq => ⟨h2 q (List.mem_of_mem_take hq), (hall q (List.mem_append_right _ hq)).2⟩) (h.kb lo a e fun q hq => ⟨(hall q (List.mem_append_left _ hq)).1, ?_⟩)
      have := h.below q hq
      omega
  · intro e
    omega
  · rcases hks with ⟨e, rfl⟩ | ⟨e, a, rfl, h1, h2⟩
    · exact .nil
    · refine List.pairwise_append.mpr ⟨h.rising, List.pairwise_singleton _ _, fun x hx y hy => ?_⟩
      obtain rfl := List.mem_singleton.mp hy
      have := (h.range x hx).2
      omega
  · intro x hx
    rcases hks with ⟨e, rfl⟩ | ⟨e, a, rfl, h1, h2⟩
    · cases hx
    · rcases List.mem_append.mp hx with hx | hx
      · have := h.range x hx
        exact ⟨this.1, by omega⟩
      · obtain rfl := List.mem_singleton.mp hx
        have h3 := h.le
        have h4 := h.last0
        refine ⟨by omega, ?_⟩
        cases c : (ps.drop ((s.take i).map (cntS l)).sum).take (cntS l k) with
        | nil =>
          have z := congrArg List.length c
          rw [List.length_take, List.length_drop, List.length_nil] at z
          omega
        | cons q qs =>
          have hq : q ∈ (ps.drop ((s.take i).map (cntS l)).sum).take (cntS l k) := by rw [c]; exact List.mem_cons_self ..
          have z1 := h2 q (List.mem_of_mem_take hq)
          have z2 := g.below q hq
          omega
  · intro u hu
    rcases List.mem_append.mp hu with hu | hu
    · exact h.keyOk u hu
    · obtain rfl := List.mem_singleton.mp hu
      exact g.keyOk
  · rw [et]
    intro q hq
    rcases List.mem_append.mp hq with hq | hq
    · exact Int.le_trans (h.below q hq) le
    · exact g.below q hq
  · rw [ed]
    exact g.above
  · rcases hks with ⟨e, rfl⟩ | ⟨e, a, rfl, h1, h2⟩
    · exact Nat.zero_le _
    · have := h.few
      rw [List.length_append]
      show ks.length + 1 ≤ i + 1
      omega
theorem Mid.done {l : Nat} {s : Sh (l + 1)} {z : Int} {ts : List (Tr l)} {ks : List Int} {ps : List (Int × Int)} {ns : List Int} {D D' : List (Int × Pg)} {last last' : Int}
    (h : Mid l s.ks s.ks.length ts ks ps ns D D' last last') (hn : s.ks.length ≠ 0) (hall : All 0 1000000001 ps) (hz : lkp D z = none) (hz2 : z ∉ ns) :
    Gen (l + 1) s (ndT z ks ts) ps (z :: ns) D (D' ++ [(z, .node ks (ts.map (num l)))]) last last' := by
  have ec : cntS (l + 1) s = ((s.ks.take s.ks.length).map (cntS l)).sum := by rw [List.take_length]; rfl
  have ep : pgsS (l + 1) s = ((s.ks.take s.ks.length).map (pgsS l)).sum + 1 := by rw [List.take_length]; exact Nat.add_comm _ _
  have hkb : ∀ lo hi, All lo hi (ps.take (cntS (l + 1) s)) → KBs (KeyB l) lo ks ts hi := fun lo hi hl => h.kb lo hi hn (by rw [← ec]; exact hl)
  have hd' : lkp (D ++ D') z = none := lkp_none fun q hq e => by
    rcases List.mem_append.mp hq with hq | hq
    · exact lkp_ne hz q hq e
    · have m : q.1 ∈ ts.flatMap (nums l) := h.perm.mem_iff.mp (List.mem_map_of_mem hq)
      rw [h.number, e] at m
      exact hz2 (List.mem_of_mem_take m)
  refine ⟨?_, ?_, ?_, ?_, ⟨?_, ?_⟩, hkb, ⟨h.rising, fun k hk => ?_, ?_, h.keyOk⟩, ?_, ?_, h.le, h.le9⟩
  · have := h.shapes
    rw [List.take_length] at this
    exact this
  · rw [ec]
    exact h.pairs
  · rw [ep]
    show z :: ts.flatMap (nums l) = z :: ns.take _
    rw [h.number]
  · show ((D' ++ [(z, Pg.node ks (ts.map (num l)))]).map (·.1)).Perm (z :: ts.flatMap (nums l))
    rw [List.map_append]
    refine (List.perm_append_comm (l₁ := D'.map (·.1)) (l₂ := [z])).trans ?_
    exact List.Perm.cons z h.perm
  · rw [← List.append_assoc]
    exact lkp_end hd'
  · intro k hk
    rw [← List.append_assoc]
    exact (h.laid k hk).more
  · have a := h.range k hk
    have b := h.le9
    exact ⟨a.1, by omega⟩
  · exact (hkb 0 1000000001 fun q hq => hall q (List.mem_of_mem_take hq)).len
  · rw [ec]
    exact h.below
  · rw [ec]
    exact h.above
end TR

/-! ### leaves, their followers, the sorted pages -/
namespace TR
open PySem PySem.Spec PyProof.Rows L2 HX
def lvs : (l : Nat) → Tr l → List Int
  | 0, t => [num 0 t]
  | l + 1, t => t.kids.flatMap (lvs l)
theorem flatMap_sub {α β : Type} {f g : α → List β} : ∀ {xs : List α}, (∀ x ∈ xs, (f x).Sublist (g x)) → (xs.flatMap f).Sublist (xs.flatMap g)
  | [], _ => List.Sublist.refl _
  | x :: xs, h => by
    rw [List.flatMap_cons, List.flatMap_cons]
    exact (h x (List.mem_cons_self ..)).append (flatMap_sub fun y hy => h y (List.mem_cons_of_mem _ hy))
theorem lvs_sub : ∀ {l : Nat} {t : Tr l}, (lvs l t).Sublist (nums l t)
  | 0, _ => List.Sublist.refl _
  | l + 1, t => (flatMap_sub fun k _ => lvs_sub (l := l) (t := k)).trans (List.sublist_cons_self _ _)
theorem lvs_leaf {D : List (Int × Pg)} : ∀ {l : Nat} {t : Tr l}, Laid D l t → ∀ {n : Int}, n ∈ lvs l t → ∃ ps nx, lkp D n = some (.leaf ps nx)
  | 0, t, ⟨nx, h⟩, n, hn => by
    obtain rfl := List.mem_singleton.mp hn
    exact ⟨_, _, h⟩
  | l + 1, t, ⟨_, h⟩, n, hn => by
    obtain ⟨k, hk, hn⟩ := List.mem_flatMap.mp hn
    exact lvs_leaf (h k hk) hn
theorem lvs_len : ∀ {l : Nat} {t : Tr l}, (lvs l t).length ≤ (nums l t).length := lvs_sub.length_le
def setp (D : List (Int × Pg)) (k : Int) (g : Pg) : List (Int × Pg) := D.map fun q => if q.1 = k then (q.1, g) else q
theorem setp_keys (D : List (Int × Pg)) (k : Int) (g : Pg) : (setp D k g).map (·.1) = D.map (·.1) := by
  unfold setp
  rw [List.map_map]
  refine List.map_congr_left fun q _ => ?_
  show (if q.1 = k then (q.1, g) else q).1 = q.1
  split <;> rfl
theorem lkp_cons {q : Int × Pg} {D : List (Int × Pg)} {k : Int} : lkp (q :: D) k = if q.1 = k then some q.2 else lkp D k := by
  unfold lkp
  by_cases e : q.1 = k
  · rw [List.find?_cons_of_pos (by exact decide_eq_true e), if_pos e]
    rfl
  · rw [List.find?_cons_of_neg (by simpa using e), if_neg e]
theorem lkp_setp {k k' : Int} {g : Pg} : ∀ {D : List (Int × Pg)}, lkp (setp D k g) k' = if k' = k then (lkp D k).map (fun _ => g) else lkp D k'
  | [] => by
    show none = if k' = k then none else none
    split <;> rfl
  | q :: D => by
    have e : setp (q :: D) k g = (if q.1 = k then (q.1, g) else q) :: setp D k g := rfl
    rw [e, lkp_cons, lkp_setp, lkp_cons, lkp_cons]
    by_cases h : q.1 = k
    · rw [if_pos h]
      by_cases h2 : k' = k
      · rw [if_pos (show (q.1, g).1 = k' from h.trans h2.symm), if_pos h2, if_pos h]
        rfl
      · rw [if_neg (show ¬ (q.1, g).1 = k' from fun z => h2 (z.symm.trans h)), if_neg h2, if_neg h2, if_neg (fun z => h2 (z.symm.trans h))]
    · rw [if_neg h]
      by_cases h2 : k' = k
      · subst h2
        rw [if_neg h, if_pos rfl, if_pos rfl, if_neg h]
      · rw [if_neg h2, if_neg h2]
theorem lkp_setp_eq {D : List (Int × Pg)} {k : Int} {g x : Pg} (h : lkp D k = some x) : lkp (setp D k g) k = some g := by
  rw [lkp_setp, if_pos rfl, h]
  rfl
theorem lkp_setp_ne {D : List (Int × Pg)} {k k' : Int} {g : Pg} (h : k' ≠ k) : lkp (setp D k g) k' = lkp D k' := by rw [lkp_setp, if_neg h]
theorem Laid.setp {D : List (Int × Pg)} {k : Int} {ps : List (Int × Int)} {nx nx' : Int} (e : lkp D k = some (.leaf ps nx)) : ∀ {l : Nat} {t : Tr l}, Laid D l t → Laid (setp D k (.leaf ps nx')) l t
  | 0, t, ⟨m, h⟩ => by
    by_cases c : num 0 t = k
    · rw [c, e] at h
      injection h with h
      injection h with h1 h2
      exact ⟨nx', by rw [c, lkp_setp_eq e, h1]⟩
    · exact ⟨m, by rw [lkp_setp_ne c]; exact h⟩
  | l + 1, t, ⟨h, g⟩ => by
    have c : num (l + 1) t ≠ k := fun c => by
      rw [c, e] at h
      cases h
    exact ⟨by rw [lkp_setp_ne c]; exact h, fun x hx => Laid.setp e (g x hx)⟩
theorem Laid.congr {D S : List (Int × Pg)} (e : ∀ k, lkp S k = lkp D k) : ∀ {l : Nat} {t : Tr l}, Laid D l t → Laid S l t
  | 0, _, ⟨nx, h⟩ => ⟨nx, (e _).trans h⟩
  | _ + 1, _, ⟨h, g⟩ => ⟨(e _).trans h, fun k hk => (g k hk).congr e⟩
theorem nodup_at {α : Type} {L : List α} (nd : L.Nodup) {i j : Nat} {x : α} (h1 : L[i]? = some x) (h2 : L[j]? = some x) : i = j := by
  obtain ⟨a1, a2⟩ := List.getElem?_eq_some_iff.mp h1
  obtain ⟨b1, b2⟩ := List.getElem?_eq_some_iff.mp h2
  have z := List.pairwise_iff_getElem.mp nd
  rcases Nat.lt_trichotomy i j with h | h | h
  · exact (z i j a1 b1 h (a2.trans b2.symm)).elim
  · exact h
  · exact (z j i b1 a1 h (b2.trans a2.symm)).elim
/-- each leaf names the next one, the last one none -/
def NextOk (D : List (Int × Pg)) (L : List Int) (i : Nat) : Prop := ∀ j n, j < i → L[j]? = some n → ∃ ps, lkp D n = some (.leaf ps ((L[j + 1]?).getD 0))
theorem foll {L : List Int} {i : Nat} (h : i < L.length) : (L.drop 1 ++ [0])[i]? = some ((L[i + 1]?).getD 0) := by
  by_cases c : i + 1 < L.length
  · rw [List.getElem?_append_left (by rw [List.length_drop]; omega), List.getElem?_drop, Nat.add_comm 1 i, List.getElem?_eq_getElem c]
    rfl
  · rw [List.getElem?_append_right (by rw [List.length_drop]; omega), List.getElem?_eq_none (l := L) (by omega), List.length_drop, show i - (L.length - 1) = 0 by omega]
    rfl
theorem NextOk.step {D : List (Int × Pg)} {L : List Int} {i : Nat} {n : Int} {ps : List (Int × Int)} {nx : Int} (h : NextOk D L i) (nd : L.Nodup) (hn : L[i]? = some n) (e : lkp D n = some (.leaf ps nx)) : NextOk (setp D n (.leaf ps ((L[i + 1]?).getD 0))) L (i + 1) := fun j m hj hm => by
  by_cases c : j = i
  · subst c
    rw [hn] at hm
    cases hm
    exact ⟨ps, lkp_setp_eq e⟩
  · have ne : m ≠ n := fun q => by
      subst q
      exact c (nodup_at nd hm hn)
    obtain ⟨qs, hq⟩ := h j m (by omega) hm
    exact ⟨qs, by rw [lkp_setp_ne ne]; exact hq⟩
theorem lkp_mem {D : List (Int × Pg)} {k : Int} {g : Pg} (h : lkp D k = some g) : (k, g) ∈ D := by
  unfold lkp at h
  cases c : D.find? fun q => decide (q.1 = k) with
  | none => rw [c] at h; cases h
  | some x =>
    rw [c] at h
    have h1 := List.mem_of_find?_eq_some c
    have h2 : x.1 = k := of_decide_eq_true (List.find?_some (p := fun q : Int × Pg => decide (q.1 = k)) c)
    have h3 : x.2 = g := Option.some.inj h
    obtain ⟨a, b⟩ := x
    subst h2 h3
    exact h1
theorem mem_lkp {D : List (Int × Pg)} (nd : (D.map (·.1)).Nodup) {k : Int} {g : Pg} (h : (k, g) ∈ D) : lkp D k = some g := by
  induction D with
  | nil => cases h
  | cons q D ih =>
    rw [lkp_cons]
    rw [List.map_cons, List.nodup_cons] at nd
    rcases List.mem_cons.mp h with h | h
    · subst h
      rw [if_pos rfl]
    · rw [if_neg (fun e => nd.1 (by rw [e]; exact List.mem_map_of_mem h))]
      exact ih nd.2 h
theorem lkp_perm {D S : List (Int × Pg)} (nd : (D.map (·.1)).Nodup) (p : S.Perm D) (k : Int) : lkp S k = lkp D k := by
  have nd2 : (S.map (·.1)).Nodup := (p.map (·.1)).nodup_iff.mpr nd
  cases c : lkp D k with
  | some g => exact mem_lkp nd2 (p.mem_iff.mpr (lkp_mem c))
  | none =>
    refine lkp_none fun q hq e => ?_
    exact lkp_ne c q (p.mem_iff.mp hq) e
theorem paired_perm {α β : Type} {R : α → β → Prop} {xs xs' : List α} (p : xs'.Perm xs) : ∀ {ys : List β}, Paired R xs ys → ∃ ys', ys'.Perm ys ∧ Paired R xs' ys' := by
  induction p with
  | nil => exact fun h => ⟨_, .refl _, h⟩
  | cons x p ih =>
    intro ys h
    cases h with
    | cons r rs =>
      obtain ⟨ys', h1, h2⟩ := ih rs
      exact ⟨_, h1.cons _, .cons r h2⟩
  | swap x y l =>
    intro ys h
    cases h with
    | cons r rs =>
      cases rs with
      | cons r2 rs => exact ⟨_, .swap _ _ _, .cons r2 (.cons r rs)⟩
  | trans p1 p2 ih1 ih2 =>
    intro ys h
    obtain ⟨y1, h1, h2⟩ := ih2 h
    obtain ⟨y2, h3, h4⟩ := ih1 h2
    exact ⟨y2, h3.trans h1, h4⟩
/-- a sound tree, its pages by their numbers -/
structure Tree (room l : Nat) (t : Tr l) (S : List (Int × Pg)) : Prop where
  r3 : 3 ≤ room
  r8 : room ≤ 8
  wf : WfSh room l true (shp l t)
  nodup : (nums l t).Nodup
  range : ∀ k ∈ nums l t, 1 ≤ k ∧ k ≤ 1000000
  perm : (S.map (·.1)).Perm (nums l t)
  sorted : S.Pairwise fun a b => a.1 < b.1
  laid : Laid S l t
  next : NextOk S (lvs l t) (lvs l t).length
  keyB : KeyB l t 0 1000000001
  keyOk : KeyOk l t
  rising : (prs l t).Pairwise fun a b => a.1 < b.1
  good : ∀ q ∈ prs l t, 0 ≤ q.1 ∧ q.1 ≤ 1000000000 ∧ 0 ≤ q.2 ∧ q.2 ≤ 1000000000
  few : (nums l t).length ≤ 1000
end TR

/-! ### more rules -/
namespace RU
open PySem PySem.Spec PyProof.Rows L2 HX RZ
section
variable {X : Cx}
def rSeq (K : PySem.W.Frag) : V → Option Int → Option Int → Hp → VK → Prop := fun x lo hi H Q => rSlL K x lo hi H Q ∨ rSlA K x lo hi H Q
theorem sl_seq : SlR X (rSeq X.K) := SlR.or sl_list sl_tupA
end
theorem walk_zipT {K : PySem.W.Frag} {a b : Addr} {xs ys : List V} {n : Nat} (hn : n = min xs.length ys.length) : Walk (ItzT K a b) n (fun H => SqT K H a xs ∧ SqT K H b ys) (YPair (fun i => xs[i]?) (fun i => ys[i]?)) := by
  subst hn
  refine ⟨fun i _ hi q => ?_, fun _ q => ⟨xs, ys, q.1, q.2, by omega⟩, fun i H v H' _ q y => ?_⟩
  · have h1 : i < xs.length := by omega
    have h2 : i < ys.length := by omega
    exact ⟨xs, ys, xs[i], ys[i], q.1, q.2, by simp [h1], by simp [h2]⟩
  · obtain ⟨T, x, z, h1, h2, h3, h4, h5⟩ := y
    exact ⟨T, x, z, h1, h2, h3, h4 xs q.1, h5 ys q.2⟩
end RU
/-! ### zip of three tuples -/
namespace RU
open PySem PySem.Spec PyProof.Rows L2 HX RZ
def ItzT3 (K : PySem.W.Frag) (a b c : Addr) : It :=
  ⟨fun i H => ∃ (xs ys zs : List V), SqT K H a xs ∧ SqT K H b ys ∧ SqT K H c zs ∧ i < min (min xs.length ys.length) zs.length,
    fun i H v H' => ∃ T x y z, v = .ref T ∧ H T = none ∧ H' = upd H T (.tup [x, y, z]) ∧ (∀ xs, SqT K H a xs → xs[i]? = some x) ∧ (∀ ys, SqT K H b ys → ys[i]? = some y) ∧ ∀ zs, SqT K H c zs → zs[i]? = some z,
    fun i H => ∃ xs ys zs : List V, SqT K H a xs ∧ SqT K H b ys ∧ SqT K H c zs ∧ i = min (min xs.length ys.length) zs.length⟩
def Zn3 (z TI TO i1 i2 i3 a b c : Addr) (i : Nat) (h : Heap) : Prop := IsZip h z TI TO .none ∧ IsTupOf3 h TI (.ref i1) (.ref i2) (.ref i3) ∧ (∃ x y u, IsTupOf3 h TO x y u) ∧ h.IsTupleIter i1 a i ∧ h.IsTupleIter i2 b i ∧ h.IsTupleIter i3 c i
theorem turn_zip3 {P : Program} {w : World} {K : PySem.W.Frag} {elts : List Expr} {kk : Nat} {tpos : Pos} {a b c z TI TO i1 i2 i3 : Addr} (S : ZipSep3 z TI TO i1 i2 i3 [i1, a] [i2, b] [i3, c]) (na : a ≠ i1) (nb : b ≠ i2) (nc : c ≠ i3) :
    Turn P w K (.Tuple elts kk tpos) (ItzT3 K a b c) [z, TI, TO, i1, i2, i3] z (Zn3 z TI TO i1 i2 i3 a b c) where
  mem := by simp
  obj := fun i h st m hm => by
    obtain ⟨hz, hTI, ⟨x, y, u, hTO⟩, ⟨o1, e1, _, d1⟩, ⟨o2, e2, _, d2⟩, ⟨o3, e3, _, d3⟩⟩ := st
    have e' : m = z ∨ m = TI ∨ m = TO ∨ m = i1 ∨ m = i2 ∨ m = i3 := by simpa using hm
    rcases e' with q | q | q | q | q | q
    · rw [q]; exact ⟨_, hz, fun v q => nomatch q⟩
    · rw [q]; exact ⟨_, hTI, fun v q => nomatch q⟩
    · rw [q]; exact ⟨_, hTO, fun v q => nomatch q⟩
    · rw [q]; exact ⟨o1, e1, fun v q => by rw [d1] at q; cases q⟩
    · rw [q]; exact ⟨o2, e2, fun v q => by rw [d2] at q; cases q⟩
    · rw [q]; exact ⟨o3, e3, fun v q => by rw [d3] at q; cases q⟩
  keep := fun i h h' st k => by
    obtain ⟨hz, hTI, ⟨x, y, u, hTO⟩, h1, h2, h3⟩ := st
    exact ⟨k z (by simp) _ hz, k TI (by simp) _ hTI, ⟨x, y, u, k TO (by simp) _ hTO⟩, h1.at fun o q => k i1 (by simp) o q, h2.at fun o q => k i2 (by simp) o q, h3.at fun o q => k i3 (by simp) o q⟩
  item := by
    intro X hP hw hK hc i pins s σ H E I hf st hg
    subst hP hw hK
    obtain ⟨hz, hTI, hTO, h1, h2, h3⟩ := st
    obtain ⟨xs, ys, zs, hqx, hqy, hqz, hlt⟩ := hg
    obtain ⟨its, rv, p, _⟩ := I.tuple hqx
    obtain ⟨its2, rv2, p2, _⟩ := I.tuple hqy
    obtain ⟨its3, rv3, p3, _⟩ := I.tuple hqz
    have hh : X.A.handled = none := I.ok.hd hc
    have W := GoesN.zip3 (prog := X.prog) (w := X.w) (A := X.A) (elts := elts) (x1 := kk) (pos := tpos) S (Draws.tuple (A := X.A.in1) hh i1 a na its.toArray) (Draws.tuple (A := X.A.in1) hh i2 b nb its2.toArray) (Draws.tuple (A := X.A.in1) hh i3 c nc its3.toArray)
    have l1 := rv.length
    have l2 := rv2.length
    have l3 := rv3.length
    refine W.goes i s (fun u s2 => ∃ x H', Inv X pins σ H' s2 ∧ RelV x u ∧ (ItzT3 X.K a b c).yld i H x H' ∧ Zn3 z TI TO i1 i2 i3 a b c (i + 1) s2.heap ∧ ∀ b ∈ [z, TI, TO, i1, i2, i3], H' b = none) E (by simp only [List.size_toArray]; omega) ⟨hz, hTI, hTO, ⟨h1, p⟩, ⟨h2, p2⟩, ⟨h3, p3⟩⟩ fun v h' tk hY st' hk htk => ?_
    obtain ⟨T, u1, u2, u3, rfl, hT, e1, e2, e3, hTt⟩ := hY
    have hx : xs[i]? = some (xs[i]'(by omega)) := List.getElem?_eq_getElem (by omega)
    have hy : ys[i]? = some (ys[i]'(by omega)) := List.getElem?_eq_getElem (by omega)
    have hw' : zs[i]? = some (zs[i]'(by omega)) := List.getElem?_eq_getElem (by omega)
    obtain ⟨v1, hu1, r1⟩ := rv.get hx
    obtain ⟨v2, hu2, r2⟩ := rv2.get hy
    obtain ⟨v3, hu3, r3⟩ := rv3.get hw'
    have q1 : v1 = u1 := by
      have : its.toArray[i]? = some v1 := by simpa using hu1
      rw [this] at e1
      exact Option.some.inj e1
    have q2 : v2 = u2 := by
      have : its2.toArray[i]? = some v2 := by simpa using hu2
      rw [this] at e2
      exact Option.some.inj e2
    have q3 : v3 = u3 := by
      have : its3.toArray[i]? = some v3 := by simpa using hu3
      rw [this] at e3
      exact Option.some.inj e3
    subst q1 q2 q3
    have new : ObjOk X.prog X.w (upd H T (.tup [xs[i]'(by omega), ys[i]'(by omega), zs[i]'(by omega)])) h' T (.tup [xs[i]'(by omega), ys[i]'(by omega), zs[i]'(by omega)]) := ⟨by show 3 ≤ sizeLine; decide, [v1, v2, v3], .cons r1 (.cons r2 (.cons r3 .nil)), hTt⟩
    have hf' : ∀ m ∈ [z, TO, i1, i2, i3], FpOk X pins H m := fun m hm => hf m (by
      have e' : m = z ∨ m = TO ∨ m = i1 ∨ m = i2 ∨ m = i3 := by simpa using hm
      rcases e' with q | q | q | q | q <;> simp [q])
    have I1 := I.turnedNew (t' := tk) (ch := [z, TO, i1, i2, i3]) hk hf' hT new
    refine ⟨.ref T, _, I1, rfl, ⟨T, _, _, _, rfl, I.hok.fresh hT, rfl, fun l hl => by rw [I.tuple_inj hl hqx]; exact hx, fun l hl => by rw [I.tuple_inj hl hqy]; exact hy, fun l hl => by rw [I.tuple_inj hl hqz]; exact hw'⟩, ⟨st'.1, st'.2.1, st'.2.2.1, st'.2.2.2.1.1, st'.2.2.2.2.1.1, st'.2.2.2.2.2.1⟩, fun m hm => ?_⟩
    have e' : m = z ∨ m = TI ∨ m = TO ∨ m = i1 ∨ m = i2 ∨ m = i3 := by simpa using hm
    have hlt2 : m < s.heap.objs.size := by
      obtain ⟨x, y, u, hTO⟩ := hTO
      rcases e' with q | q | q | q | q | q
      · rw [q]; exact Heap.lt_size hz
      · rw [q]; exact Heap.lt_size hTI
      · rw [q]; exact Heap.lt_size hTO
      · rw [q]; obtain ⟨_, e1, _⟩ := h1; exact Heap.lt_size e1
      · rw [q]; obtain ⟨_, e2, _⟩ := h2; exact Heap.lt_size e2
      · rw [q]; obtain ⟨_, e3, _⟩ := h3; exact Heap.lt_size e3
    rw [upd_ne (Nat.ne_of_lt (Nat.lt_of_lt_of_le hlt2 hT))]
    exact (hf m hm).1
  done := by
    intro X hP hw hK hc i pins s σ H E I hf st hg
    subst hP hw hK
    obtain ⟨hz, hTI, hTO, h1, h2, h3⟩ := st
    obtain ⟨xs, ys, zs, hqx, hqy, hqz, hend⟩ := hg
    obtain ⟨its, rv, p, _⟩ := I.tuple hqx
    obtain ⟨its2, rv2, p2, _⟩ := I.tuple hqy
    obtain ⟨its3, rv3, p3, _⟩ := I.tuple hqz
    have hh : X.A.handled = none := I.ok.hd hc
    have W := GoesN.zip3 (prog := X.prog) (w := X.w) (A := X.A) (elts := elts) (x1 := kk) (pos := tpos) S (Draws.tuple (A := X.A.in1) hh i1 a na its.toArray) (Draws.tuple (A := X.A.in1) hh i2 b nb its2.toArray) (Draws.tuple (A := X.A.in1) hh i3 c nc its3.toArray)
    have l1 := rv.length
    have l2 := rv2.length
    have l3 := rv3.length
    have en : i = min (min its.toArray.size its2.toArray.size) its3.toArray.size := by simp only [List.size_toArray]; omega
    subst en
    have hf' : ∀ m ∈ [z, TO, i1, i2, i3], FpOk X pins H m := fun m hm => hf m (by
      have e' : m = z ∨ m = TO ∨ m = i1 ∨ m = i2 ∨ m = i3 := by simpa using hm
      rcases e' with q | q | q | q | q <;> simp [q])
    exact W.stops s (fun s1 => Inv X pins σ H s1) E ⟨hz, hTI, hTO, ⟨h1, p⟩, ⟨h2, p2⟩, ⟨h3, p3⟩⟩ fun h' tk hk htk => I.turnedL (t' := tk) (ch := [z, TO, i1, i2, i3]) hk hf'
  self := fun A i s Q E st h => wpAny_pyIter_zip st.1 h
def iZip3 (K : PySem.W.Frag) (ta : TA) : TI := fun σ H R => ta σ H fun vs H1 => ∃ a b c xs ys zs, vs = [.ref a, .ref b, .ref c] ∧ SqT K H1 a xs ∧ SqT K H1 b ys ∧ SqT K H1 c zs ∧ R (ItzT3 K a b c) H1
theorem pi_zip3 {X : Cx} {e e2 e3 : Expr} {ta : TA} {p pos tpos : Pos} {elts : List Expr} {kk : Nat} (hg : Gl X "zip") (hm : X.mg "zip" = none) (ha : PA X [e, e2, e3] ta)
    (hs : starEach [e, e2, e3] X.env = (false, eval e X.env) :: starEach [e2, e3] X.env := by rfl) (hpl : (backTo pos (starEach [e2, e3] X.env)).any (·.1) = false := by rfl) :
    PI X (.Tuple elts kk tpos) (.Call (.Name "zip" p) [e, e2, e3] [] pos) (iZip3 X.K ta) := by
  refine ⟨fun pins s σ H R I h => ?_⟩
  refine Call_ (ld_blt I hg hm PyProof.Rows.boot_zip (PyProof.Rows.callWith_type1 (thn (ha.run pos pins s σ H _ I h) fun us s1 ⟨vs, H1, I1, r1, q1⟩ => ?_) hs hpl))
  obtain ⟨a, b, c, xs, ys, zs, ex, hqx, hqy, hqz, q⟩ := q1
  subst ex
  cases r1 with
  | cons r rr =>
    cases rr with
    | cons r' rr =>
      cases rr with
      | cons r'' rr =>
        cases rr
        cases r
        cases r'
        cases r''
        have fresh6 : ∀ m, m ∈ [s1.heap.objs.size + 5, s1.heap.objs.size + 3, s1.heap.objs.size + 4, s1.heap.objs.size, s1.heap.objs.size + 1, s1.heap.objs.size + 2] → FpOk X pins H1 m := fun m hcm => by
          have e' : m = s1.heap.objs.size + 5 ∨ m = s1.heap.objs.size + 3 ∨ m = s1.heap.objs.size + 4 ∨ m = s1.heap.objs.size ∨ m = s1.heap.objs.size + 1 ∨ m = s1.heap.objs.size + 2 := by simpa using hcm
          have hle : s1.heap.objs.size ≤ m := by
            rcases e' with z | z | z | z | z | z
            · rw [z]; exact Nat.le_add_right _ _
            · rw [z]; exact Nat.le_add_right _ _
            · rw [z]; exact Nat.le_add_right _ _
            · rw [z]; exact Nat.le_refl _
            · rw [z]; exact Nat.le_add_right _ _
            · rw [z]; exact Nat.le_add_right _ _
          exact I1.fpOk hle (I1.hok.fresh hle)
        obtain ⟨its, rv, p1, _⟩ := I1.tuple hqx
        obtain ⟨its2, rv2, p2, _⟩ := I1.tuple hqy
        obtain ⟨its3, rv3, p3, _⟩ := I1.tuple hqz
        obtain ⟨o1, ho1, _⟩ := id p1
        obtain ⟨o2, ho2, _⟩ := id p2
        obtain ⟨o3, ho3, _⟩ := id p3
        have la := Heap.lt_size ho1
        have lb := Heap.lt_size ho2
        have lc := Heap.lt_size ho3
        refine zip_begins3 (begins_tuple a its.toArray) (begins_tuple b its2.toArray) (begins_tuple c its3.toArray) p1 p2 p3 fun h' hz hTI hTO h1 h2 h3 hsz hk => wpAny_pyIter_zip hz ?_
        have I2 : Inv X pins σ H1 { s1 with heap := h' } := I1.kept (t' := s1.toks) hk
        have S : ZipSep3 (s1.heap.objs.size + 5) (s1.heap.objs.size + 3) (s1.heap.objs.size + 4) s1.heap.objs.size (s1.heap.objs.size + 1) (s1.heap.objs.size + 2) [s1.heap.objs.size, a] [s1.heap.objs.size + 1, b] [s1.heap.objs.size + 2, c] :=
          zip_sep3 (fun m hm => by rw [List.mem_singleton.mp hm]; exact la) (fun m hm => by rw [List.mem_singleton.mp hm]; exact lb) (fun m hm => by rw [List.mem_singleton.mp hm]; exact lc)
        exact ⟨s1.heap.objs.size + 5, [s1.heap.objs.size + 5, s1.heap.objs.size + 3, s1.heap.objs.size + 4, s1.heap.objs.size, s1.heap.objs.size + 1, s1.heap.objs.size + 2], _, _, H1, rfl, I2,
          turn_zip3 S (Nat.ne_of_lt la) (Nat.ne_of_lt (Nat.lt_of_lt_of_le lb (Nat.le_add_right _ _))) (Nat.ne_of_lt (Nat.lt_of_lt_of_le lc (Nat.le_add_right _ _))), ⟨hz, hTI, ⟨_, _, _, hTO⟩, ⟨_, h1, rfl, rfl⟩, ⟨_, h2, rfl, rfl⟩, ⟨_, h3, rfl, rfl⟩⟩, fresh6, q⟩
def YTrip (xs ys zs : Nat → Option V) : Nat → Hp → V → Hp → Prop := fun i H v H' => ∃ T x y z, v = .ref T ∧ H T = none ∧ H' = upd H T (.tup [x, y, z]) ∧ xs i = some x ∧ ys i = some y ∧ zs i = some z
theorem walk_zip3 {K : PySem.W.Frag} {a b c : Addr} {xs ys zs : List V} {n : Nat} (hn : n = min (min xs.length ys.length) zs.length) : Walk (ItzT3 K a b c) n (fun H => SqT K H a xs ∧ SqT K H b ys ∧ SqT K H c zs) (YTrip (fun i => xs[i]?) (fun i => ys[i]?) (fun i => zs[i]?)) := by
  subst hn
  refine ⟨fun i _ hi q => ⟨xs, ys, zs, q.1, q.2.1, q.2.2, hi⟩, fun _ q => ⟨xs, ys, zs, q.1, q.2.1, q.2.2, rfl⟩, fun i H v H' _ q y => ?_⟩
  obtain ⟨T, x, y1, z, h1, h2, h3, h4, h5, h6⟩ := y
  exact ⟨T, x, y1, z, h1, h2, h3, h4 xs q.1, h5 ys q.2.1, h6 zs q.2.2⟩
end RU

/-! ### dict of a tuple of pairs; fields as targets -/
namespace RU
open PySem PySem.Spec PyProof.Rows L2 HX RZ
section
variable {X : Cx} {pins : List (Addr × Obj)}
/-- tuple(xs) of a list: a new tuple, of which one knows that it has no dict -/
theorem call_tupF : CallR X (.type "tuple") (fun xs H Q => ∃ p ys, xs = [.ref p] ∧ SqL X.K H p ys ∧ ∀ l o, H l = none → o.dict = none → Q (.ref l) (upd H l (.frz o (.tup ys)))) := by
  intro pins s σ H xs us Q I r h
  obtain ⟨p, ys, rfl, hq, q⟩ := h
  obtain ⟨u, rfl, rx⟩ := vals1 r
  cases rx
  obtain ⟨its, r', pl, hz⟩ := I.list hq
  have hlen := r'.length
  refine call_tuple_list pl.isList (fun h' kp => ?_) (by simp only [List.size_toArray] <;> omega)
  have I1 : Inv X pins σ H { s with heap := h' } := I.kept (t' := s.toks) kp
  have I2 : Inv X pins σ (upd H h'.objs.size (.frz { cls := .type "tuple", data := .seq its.toArray } (.tup ys))) { s with heap := h'.push { cls := .type "tuple", data := .seq its.toArray } } :=
    I1.laid (t' := s.toks) (fun b o e => Heap.get?_push_of_some _ e) (Nat.le_refl _) (show ObjOk X.prog X.w _ _ _ (.frz _ (.tup ys)) from ⟨Heap.get?_push_size _ rfl, hz, its, r', IsTup.new _ _⟩)
  exact ⟨.ref h'.objs.size, _, I2, rfl, q _ _ (I1.hok.fresh (Nat.le_refl _)) rfl⟩
theorem pairs_of2 {pins : List (Addr × Obj)} {σ : L2.St} {H : Hp} {s : Shared} (I : Inv X pins σ H s) : ∀ {ps : List Addr} {kvs : List (Key × V)}, Paired (fun p kv => SqT X.K H p [kV kv.1, kv.2]) ps kvs →
    ∃ (prs : List (Key × Value)) (pv : List (Value × Value)), KV kvs prs ∧ prs.length = ps.length ∧ pv.length = ps.length ∧ ∀ (j : Nat) (k v : Value), pv[j]? = some (k, v) → ∃ (b : Addr) (key : Key), ps[j]? = some b ∧ IsTup s.heap b #[k, v] ∧ prs[j]? = some (key, v) ∧ keyIs key k = true
  | _, _, .nil => ⟨[], [], .nil, rfl, rfl, fun j k v e => by simp at e⟩
  | _, _, .cons (a := p) (b := kv) h t => by
    obtain ⟨prs, pv, r, hl, hl2, hp⟩ := pairs_of2 I t
    obtain ⟨its, rv, ht, _⟩ := I.tuple h
    obtain ⟨u, y, ei, ru, ry⟩ := vals2 rv
    subst ei
    refine ⟨(kv.1, y) :: prs, (u, y) :: pv, .cons ⟨rfl, ry⟩ r, by rw [List.length_cons, List.length_cons, hl], by rw [List.length_cons, List.length_cons, hl2], fun j k v e => ?_⟩
    cases j with
    | zero =>
      have e' : (u, y) = (k, v) := Option.some.inj e
      injection e' with e1 e2
      subst e1 e2
      exact ⟨p, kv.1, rfl, ht, rfl, kV_is (P := X.prog) (w := X.w) ru⟩
    | succ j =>
      obtain ⟨b, key, e1, e2, e3, e4⟩ := hp j k v (by simpa using e)
      exact ⟨b, key, by simpa using e1, e2, by simpa using e3, e4⟩
def rDictT (K : PySem.W.Frag) : List V → Hp → VK → Prop := fun xs H Q => ∃ (a : Addr) (o : Obj) (ps : List Addr) (kvs : List (Key × V)), xs = [.ref a] ∧ H a = some (.frz o (.tup (ps.map V.ref))) ∧ o.dict = none ∧ Paired (fun p kv => SqT K H p [kV kv.1, kv.2]) ps kvs ∧
  ∀ p, H p = none → Q (.ref p) (upd H p (.dK (mergeK [] kvs)))
theorem call_dictT (hcalm : X.calm = true) : CallR X (.type "dict") (rDictT X.K) := by
  intro pins s σ H xs us Q I r q
  obtain ⟨a, o, ps, kvs, ex, ha, hdo, hp, q⟩ := q
  subst ex
  obtain ⟨u, eu, rx⟩ := vals1 r
  subst eu
  cases rx
  have ok : ObjOk X.prog X.w H s.heap a (.frz o (.tup (ps.map V.ref))) := I.hok a _ ha
  obtain ⟨hg, hz, its, rv, o', hg', hc, n, hd⟩ := ok
  rw [hg] at hg'
  cases hg'
  have ei := refs_at rv
  subst ei
  obtain ⟨prs, pv, rel, hl, hl2, hpr⟩ := pairs_of2 I hp
  rw [List.length_map] at hz
  have hitems : PairItems s.heap (ps.map Value.ref).toArray (fun j => (ps[j]?).getD 0) pv := by
    refine ⟨by simp [hl2], fun j k v e => ?_⟩
    obtain ⟨b, key, e1, e2, _⟩ := hpr j k v e
    refine ⟨by simp [e1], .inl ?_⟩
    show s.heap.IsTuple (ps[j]?.getD 0) #[k, v]
    rw [e1]
    exact e2
  refine PySem.call_dict_pairs (knd := mixKind X.prog X.w) (kvs := prs) (PairArg.tuple a (ps.map Value.ref).toArray (fun j => (ps[j]?).getD 0) pv) (I.ok.hd hcalm) ⟨⟨o, n, hg, hc, hdo, hd⟩, hitems⟩ ?_ (by rw [hl2]; exact hz) fun h' tk hd' k => ?_
  · refine ⟨by rw [hl, hl2], fun i key v hr => ?_⟩
    obtain ⟨b, kk, _, _, e3, e4⟩ := hpr i key v hr
    exact ⟨kk, e3, e4⟩
  · have hm : (s.heap.objs.size == sysModules) = false := beq_eq_false_iff_ne.mpr (Nat.ne_of_gt I.big)
    have hlen : (mergeK [] kvs).length ≤ sizeLine := by
      refine Nat.le_trans (length_mergeK kvs []) ?_
      rw [List.length_nil, Nat.zero_add, rel.length, hl]
      exact hz
    exact ⟨.ref s.heap.objs.size, upd H s.heap.objs.size (.dK (mergeK [] kvs)), I.laid (t' := tk) (fun b o e => k b o (by simp) e) (Nat.le_refl _) (show ObjOk X.prog X.w _ _ _ (.dK (mergeK [] kvs)) from ⟨hlen, hm, merged [] prs, KV.merge rel .nil, hd'⟩), rfl, q _ (I.hok.fresh (Nat.le_refl _))⟩
/-- o.f, to which a part is given -/
def gFld (K : PySem.W.Frag) (ta : TE) (f : Str) : TG := fun y σ H Q => ta σ H fun x H2 => ∃ a C dx fs, x = .ref a ∧ H2 a = some (.ins C dx fs) ∧ Cls K C ∧ NoAttr K C f ∧ fs.length < 1000 ∧ Q σ (upd H2 a (.ins C dx (putF f y fs)))
theorem pg_fld {o : Expr} {f : Str} {pos' : Pos} {ta : TE} (ha : PE X o ta) : PG X (.Attribute o f pos') (gFld X.K ta f) := by
  refine ⟨fun pins s σ H v u Q I r h => ?_⟩
  rw [assign_Attribute]
  refine wpAny_bind (wpAny_holding (thn (ha.run pins s σ H _ I h) fun ov s1 ⟨x, H1, I1, r1, a, C, dx, fs, ex, ea, c, n, l, q⟩ => ?_))
  subst ex
  obtain rfl : ov = Value.ref a := r1
  refine wpAny_bind (wpAny_standAt (wpAny_bind (wpAny_holding (setattr_ok I1 ea c n l r fun s2 I2 => ?_))))
  exact wpAny_release ⟨σ, _, I2, q⟩
end
theorem putK_new {kvs : List (Key × V)} {k : Key} {v : V} (h : ∀ q ∈ kvs, q.1 ≠ k) : putK kvs k v = kvs ++ [(k, v)] := by
  unfold putK
  rw [if_neg]
  intro z
  obtain ⟨x, hx, hx2⟩ := List.any_eq_true.mp z
  exact h x hx (of_decide_eq_true hx2)
theorem mergeK_nodup : ∀ {more kvs : List (Key × V)}, ((kvs ++ more).map (·.1)).Nodup → mergeK kvs more = kvs ++ more
  | [], kvs, _ => (List.append_nil kvs).symm
  | p :: more, kvs, h => by
    have e : mergeK kvs (p :: more) = mergeK (putK kvs p.1 p.2) more := rfl
    have hn : ∀ q ∈ kvs, q.1 ≠ p.1 := fun q hq e => by
      rw [List.map_append, List.map_cons] at h
      exact (List.nodup_append.mp h).2.2 q.1 (List.mem_map_of_mem hq) p.1 (List.mem_cons_self ..) e
    rw [e, putK_new hn, mergeK_nodup (by rw [List.append_assoc]; exact h), List.append_assoc]
    rfl
/-- a walk whose body says by itself where it goes on -/
theorem out_it {J : It} {n : Nat} {G : Hp → Prop} {Y : Nat → Hp → V → Hp → Prop} (w : Walk J n G Y) {H0 : Hp} {body : V → Hp → (Hp → Prop) → Prop} {Qd : Hp → Prop} (Pv : Nat → Hp → Prop) (h0 : Pv 0 H0) (hG : ∀ i H, i ≤ n → Pv i H → G H)
    (hs : ∀ i x H H', i < n → Pv i H → Y i H x H' → body x H' (Pv (i + 1))) (hd : ∀ H, Pv n H → Qd H) :
    ∃ W : Nat → Nat → Hp → Prop, (∃ m, W 0 m H0) ∧ ∀ i m H, W i m H → (J.stop i H ∧ Qd H) ∨ (J.go i H ∧ ∃ Nx : Hp → Prop, (∀ H', Nx H' → ∃ m', m' < m ∧ W (i + 1) m' H') ∧ ∀ x H', J.yld i H x H' → body x H' Nx) := by
  refine ⟨fun i m H => m = n - i ∧ i ≤ n ∧ Pv i H, ⟨n, by simp, Nat.zero_le _, h0⟩, ?_⟩
  rintro i m H ⟨rfl, hi, p⟩
  have q := hG i H hi p
  by_cases hlt : i < n
  · refine .inr ⟨w.goes i H hlt q, Pv (i + 1), fun H' p' => ⟨n - (i + 1), by omega, rfl, hlt, p'⟩, fun x H' y => hs i x H H' hlt p (w.yields i H x H' hlt q y)⟩
  · have e : i = n := by omega
    subst e
    exact .inl ⟨w.stops H q, hd H p⟩
/-- {k: v} -/
theorem pe_dict1 {X : Cx} {k v : Expr} {tk tv : TE} {pos : Pos} (hk : PE X k tk) (hv : PE X v tv) : PE X (.Dict [some k] [v] pos) (tDisp [(tk, tv)]) :=
  pe_disp (pps_cons hk hv pps_nil) rfl rfl (by simp) (by simp)
theorem pi_tupK {X : Cx} (K : PySem.W.Frag) {tg l : Expr} {tl : TE} (hl : PE X l tl) (h : X.K = K := by rfl) : PI X tg l (iTup K tl) := by
  subst h
  exact pi_tup hl
end RU

/-! ### rows of a tree -/
namespace TR
open PySem PySem.Spec PyProof.Rows L2 HX
def kidsF {m : Nat} (F : List (Tr (m + 1))) : List (Tr m) := F.flatMap Tr.kids
def rows : (m : Nat) → List (Tr m) → List (List Int)
  | 0, F => [F.map (num 0)]
  | m + 1, F => F.map (num (m + 1)) :: rows m (kidsF F)
theorem rows_cons : ∀ {m : Nat} (F : List (Tr m)), ∃ r, rows m F = F.map (num m) :: r
  | 0, _ => ⟨[], rfl⟩
  | _ + 1, _ => ⟨_, rfl⟩
theorem flat_cons {α β : Type} (f : α → β) (g : α → List β) : ∀ F : List α, (F.flatMap fun t => f t :: g t).Perm (F.map f ++ F.flatMap g)
  | [] => .refl _
  | a :: F => by
    rw [List.flatMap_cons, List.map_cons, List.flatMap_cons, List.cons_append, List.cons_append]
    refine List.Perm.cons _ ?_
    refine ((flat_cons f g F).append_left (g a)).trans ?_
    rw [← List.append_assoc, ← List.append_assoc]
    exact (List.perm_append_comm).append_right _
theorem rows_perm : ∀ {m : Nat} (F : List (Tr m)), (rows m F).flatten.Perm (F.flatMap (nums m))
  | 0, F => by
    have e : F.flatMap (nums 0) = F.map (num 0) := by
      have : nums 0 = fun t => [num 0 t] := rfl
      rw [this]
      induction F with
      | nil => rfl
      | cons a F ih => rw [List.flatMap_cons, ih]; rfl
    rw [e]
    show ([F.map (num 0)] : List (List Int)).flatten.Perm _
    rw [List.flatten_cons, List.flatten_nil, List.append_nil]
  | m + 1, F => by
    have e : F.flatMap (nums (m + 1)) = F.flatMap (fun t => num (m + 1) t :: t.kids.flatMap (nums m)) := rfl
    rw [e]
    refine List.Perm.trans ?_ (flat_cons _ _ F).symm
    show (F.map (num (m + 1)) :: rows m (kidsF F)).flatten.Perm _
    rw [List.flatten_cons]
    refine List.Perm.append_left _ ((rows_perm (kidsF F)).trans ?_)
    unfold kidsF
    rw [List.flatMap_assoc]
theorem rows_last : ∀ {m : Nat} (F : List (Tr m)), (rows m F).getLast? = some (F.flatMap (lvs m))
  | 0, F => by
    have e : F.flatMap (lvs 0) = F.map (num 0) := by
      have : lvs 0 = fun t => [num 0 t] := rfl
      rw [this]
      induction F with
      | nil => rfl
      | cons a F ih => rw [List.flatMap_cons, ih]; rfl
    rw [e]
    rfl
  | m + 1, F => by
    obtain ⟨r, hr⟩ := rows_cons (kidsF F)
    have ih := rows_last (kidsF F)
    show (F.map (num (m + 1)) :: rows m (kidsF F)).getLast? = _
    rw [hr] at ih ⊢
    rw [List.getLast?_cons_cons, ih]
    unfold kidsF
    rw [List.flatMap_assoc]
    rfl
theorem rows_len : ∀ {m : Nat} (F : List (Tr m)), (rows m F).length = m + 1
  | 0, _ => rfl
  | m + 1, F => by
    show (rows m (kidsF F)).length + 1 = _
    rw [rows_len]
end TR

/-! ### repr of data; the promise of a def around which nothing is being shown -/
namespace RP
open PySem PySem.Spec PyProof.Rows L2 HX RZ
/-- data whose text is short: of weight n, depth k at most -/
structure Nice (d : PyData) (n k : Nat) : Prop where
  sh : d.showable = true
  nd : d.hasDict = false
  ls : d.leavesShort 13 = true
  wt : d.weight ≤ n
  dp : d.depth ≤ k
theorem Nice.le {d : PyData} {n k n' k' : Nat} (h : Nice d n k) (a : n ≤ n') (b : k ≤ k') : Nice d n' k' := ⟨h.sh, h.nd, h.ls, Nat.le_trans h.wt a, Nat.le_trans h.dp b⟩
theorem nice_int {i : Int} (h1 : -999999999999 ≤ i) (h2 : i ≤ 999999999999) : Nice (.int i) 40 0 := by
  have hl : i.natAbs.log2 < 40 := by
    by_cases z : i.natAbs = 0
    · rw [z]; decide
    · exact (Nat.log2_lt z).mpr (by omega)
  refine ⟨?_, rfl, ?_, ?_, Nat.le_refl 0⟩
  · show decide (i.natAbs.log2 < 1920) = true
    exact decide_eq_true (by omega)
  · show decide ((PyData.shown (.int i)).length ≤ 13) = true
    exact decide_eq_true (PyData.shown_int_le2 h1 h2)
  · show (if (i == 0) = true then 0 else i.natAbs.log2 + 1) ≤ 40
    split <;> omega
theorem nice_rows {n k : Nat} : ∀ {ds : List PyData}, (∀ d ∈ ds, Nice d n k) → PyData.showableAll ds = true ∧ PyData.hasDictAll ds = false ∧ PyData.leavesShortAll 13 ds = true ∧ PyData.weightAll ds ≤ ds.length * (n + 1) ∧ PyData.depthAll ds ≤ k
  | [], _ => ⟨rfl, rfl, rfl, Nat.zero_le _, Nat.zero_le _⟩
  | d :: ds, h => by
    have a := h d (List.mem_cons_self ..)
    obtain ⟨b1, b2, b3, b4, b5⟩ := nice_rows (n := n) (k := k) (ds := ds) fun x hx => h x (List.mem_cons_of_mem _ hx)
    refine ⟨?_, ?_, ?_, ?_, ?_⟩
    · show (d.showable && PyData.showableAll ds) = true
      rw [a.sh, b1]; rfl
    · show (d.hasDict || PyData.hasDictAll ds) = false
      rw [a.nd, b2]; rfl
    · show (d.leavesShort 13 && PyData.leavesShortAll 13 ds) = true
      rw [a.ls, b3]; rfl
    · show d.weight + 1 + PyData.weightAll ds ≤ (ds.length + 1) * (n + 1)
      have := a.wt
      rw [Nat.succ_mul]
      omega
    · show max d.depth (PyData.depthAll ds) ≤ k
      have := a.dp
      omega
theorem nice_tup {ds : List PyData} {n k m : Nat} (h : ∀ d ∈ ds, Nice d n k) (hm : ds.length * (n + 1) ≤ m) : Nice (.tuple ds) m (k + 1) := by
  obtain ⟨b1, b2, b3, b4, b5⟩ := nice_rows h
  exact ⟨b1, b2, b3, Nat.le_trans b4 hm, Nat.succ_le_succ b5⟩
theorem nice_lst {ds : List PyData} {n k m : Nat} (h : ∀ d ∈ ds, Nice d n k) (hm : ds.length * (n + 1) ≤ m) : Nice (.list ds) m (k + 1) := by
  obtain ⟨b1, b2, b3, b4, b5⟩ := nice_rows h
  exact ⟨b1, b2, b3, Nat.le_trans b4 hm, Nat.succ_le_succ b5⟩
structure NiceAll (ds : List PyData) (n k : Nat) : Prop where
  sh : PyData.showableAll ds = true
  nd : PyData.hasDictAll ds = false
  ls : PyData.leavesShortAll 13 ds = true
  wt : PyData.weightAll ds ≤ n
  dp : PyData.depthAll ds ≤ k
theorem NiceAll.nil {k : Nat} : NiceAll [] 0 k := ⟨rfl, rfl, rfl, Nat.le_refl 0, Nat.zero_le _⟩
theorem NiceAll.cons {d : PyData} {ds : List PyData} {a b k k' : Nat} (h : Nice d a k') (hs : NiceAll ds b k) (hk : k' ≤ k) : NiceAll (d :: ds) (a + 1 + b) k := by
  refine ⟨?_, ?_, ?_, ?_, ?_⟩
  · show (d.showable && PyData.showableAll ds) = true
    rw [h.sh, hs.sh]; rfl
  · show (d.hasDict || PyData.hasDictAll ds) = false
    rw [h.nd, hs.nd]; rfl
  · show (d.leavesShort 13 && PyData.leavesShortAll 13 ds) = true
    rw [h.ls, hs.ls]; rfl
  · show d.weight + 1 + PyData.weightAll ds ≤ a + 1 + b
    have := h.wt
    have := hs.wt
    omega
  · show max d.depth (PyData.depthAll ds) ≤ k
    have := h.dp
    have := hs.dp
    omega
theorem NiceAll.all {ds : List PyData} {n k m : Nat} (h : ∀ d ∈ ds, Nice d n k) (hm : ds.length * (n + 1) ≤ m) : NiceAll ds m k := by
  obtain ⟨b1, b2, b3, b4, b5⟩ := nice_rows h
  exact ⟨b1, b2, b3, Nat.le_trans b4 hm, b5⟩
theorem NiceAll.tup {ds : List PyData} {n k : Nat} (h : NiceAll ds n k) : Nice (.tuple ds) n (k + 1) := ⟨h.sh, h.nd, h.ls, h.wt, Nat.succ_le_succ h.dp⟩
theorem NiceAll.lst {ds : List PyData} {n k : Nat} (h : NiceAll ds n k) : Nice (.list ds) n (k + 1) := ⟨h.sh, h.nd, h.ls, h.wt, Nat.succ_le_succ h.dp⟩
/-- of thirty bits -/
theorem nice_int30 {i : Int} (h1 : -1000000000 ≤ i) (h2 : i ≤ 1000000000) : Nice (.int i) 30 0 := by
  have a := nice_int (i := i) (by omega) (by omega)
  refine ⟨a.sh, a.nd, a.ls, ?_, a.dp⟩
  show (if (i == 0) = true then 0 else i.natAbs.log2 + 1) ≤ 30
  split
  · omega
  · have hl : i.natAbs.log2 < 30 := by
      by_cases z : i.natAbs = 0
      · rw [z]; decide
      · exact (Nat.log2_lt z).mpr (by omega)
    omega
theorem nice_bool (b : Bool) : Nice (.bool b) 0 0 := ⟨rfl, rfl, rfl, Nat.le_refl 0, Nat.le_refl 0⟩
theorem nice_none : Nice .none 0 0 := ⟨rfl, rfl, rfl, Nat.le_refl 0, Nat.le_refl 0⟩
theorem dpAll_of {K : PySem.W.Frag} {H : Hp} {β : Type} {R : V → β → Prop} {f : β → PyData} (h : ∀ x y, R x y → Dp K H x (f y)) : ∀ {xs : List V} {ys : List β}, Paired R xs ys → DpAll K H xs (ys.map f)
  | _, _, .nil => .nil
  | _, _, .cons r rs => .cons (h _ _ r) (dpAll_of h rs)
theorem nice_leaf : Nice (.str "leaf") 4 0 := ⟨rfl, rfl, by decide, by decide, Nat.le_refl 0⟩
theorem nice_node : Nice (.str "node") 4 0 := ⟨rfl, rfl, by decide, by decide, Nat.le_refl 0⟩
/-- repr(x), x data that stands in the heap; nothing is being shown around -/
theorem call_reprD {X : Cx} (hg : X.A.guards = some []) (hu : X.A.units + 64 < cLine) : CallR X (.builtin "repr") (fun xs H Q => ∃ (a : Addr) (d : PyData) (n : Nat), xs = [.ref a] ∧ Dp X.K H (.ref a) d ∧ Nice d n 50 ∧ n ≤ 2 ^ 20 ∧ Q (.str d.shown) H) := by
  intro pins s σ H xs us Q I r h
  obtain ⟨a, d, n, rfl, hd, hn, hl, q⟩ := h
  obtain ⟨u, rfl, rx⟩ := vals1 r
  obtain rfl : u = Value.ref a := rx
  obtain ⟨as, rr⟩ := Dp.reads I d _ _ hd (rfl : RelV (.ref a) (.ref a))
  refine repr_of_reads' rr hn.sh (PyData.noDict_hsm hn.nd) hg (by have := hn.dp; omega) (fun _ _ e => e) (fun h' t tk hk => ⟨.str d.shown, H, I.kept (t' := tk) hk, ⟨t, rfl⟩, q⟩) (PyData.shown_fits (B := 13) (by decide) (by decide) hn.ls (Nat.le_trans hn.wt hl))
/-- as FnOk, where nothing is being shown around -/
structure FnOkG (P : Program) (w : World) (K : PySem.W.Frag) (mg : Str → Option Value) (base : Heap) (CX : CXT) (k : Nat) (f : Addr) (fd : FuncData) (ps : List Str) (sp : Sp) : Prop where
  go : ∀ (Z : Around) (envs : List Env) (c : Shared) (G : Hp) (us : List Value) (vs : List V) (Q : VK) (E : XK) (as : Args), Z.guards = some [] → Room k Z → Env0 P w K mg base Z envs c G → BindsTo c fd as (ps.zip us) → Vals vs us → sp vs G Q E →
    codeAny (model P w) Z (.call (.ref f) as) (CR CX envs P w G c Q E) c
theorem okG {P : Program} {w : World} {K : PySem.W.Frag} {mg : Str → Option Value} {base : Heap} {CX : CXT} {x qual : Str} {pr : Arguments} {bd : List Stmt} {sc : Scope} {dvs : List V} {kws : List (Str × V)} {f : Addr} {fd : FuncData} {N ps : List Str} {k : Nat} {sp : Sp}
    (F : FunD K x qual pr bd sc dvs kws f fd) (S : FnScope N ps sc) (len : ∀ vs H Q E, sp vs H Q E → vs.length = ps.length)
    (hb : ∀ (cdv : Value) (Z : Around) (envs : List Env) (c : Shared) (G : Hp) (vs : List V) (Q : VK) (E : XK), Z.guards = some [] → Room k (Z.deeper (envOfC qual sc c.heap.objs.size f cdv)) → sp vs G Q E →
      ∃ t, PSs (cxOf CX P w K mg base N qual sc f cdv Z envs c G E) bd t ∧ t { nx := fun _ G' => Q .non G', rt := Q } (start N vs) G) : FnOkG P w K mg base CX (k + 1) f fd ps sp := by
  obtain ⟨oc, od, dV, kV, doc, pm, an, cdv, ct, osl, rfl, lk, hcd, _, _⟩ := F.ex
  constructor
  intro Z envs c G us vs Q E as hz hr e0 hbt rel hsp
  have n0 := len _ _ _ _ hsp
  have kp : ∀ b o, base.get? b = some o → c.heap.get? b = some o := fun b o e => (e0.bs b o e).1
  have hK : K.In c.heap := e0.mod.kin.keeps kp
  have nl : c.heap.NoLimit := e0.mod.nolimit.keeps kp
  refine codeAny_call_function hr.depth (hK _ _ lk) rfl S.co S.gen rfl (PySem.W.codeRec_of hK hcd) (hbt _ _ _ _ ?_)
  refine wpAny_newFunctionEnv_cells S.kind ?_ ?_
  · rintro ⟨n, v⟩ hy
    rcases S.par n (List.of_mem_zip hy).1 with q | q
    · exact .inl q
    · exact .inr ⟨q, PySem.W.cellsFrom_some _ _ _ (.inl q)⟩
  intro env he c1 xx
  subst he
  refine ⟨nl.keeps xx.toInCall.keep, codeAny_func ?_⟩
  obtain ⟨t, ht, hq⟩ := hb cdv Z envs c G vs Q E hz (hr.deeper _) hsp
  refine wpAny_mono (ht.run [] c1 (start N vs) G _ (inv_start S hr.hd e0 n0 rel xx) hq) ?_ fun e c' z => z
  intro fl c' z
  match fl, z with
  | .ret u, ⟨v, σ', G', J, rv, q⟩ => exact ⟨v, G', J.os, J.bare, J.base, J.hok, rv, q⟩
  | .next, ⟨σ', G', J, q⟩ => exact ⟨V.non, G', J.os, J.bare, J.base, J.hok, rfl, q⟩
  | .brk, ⟨_, _, _, q⟩ => exact False.elim q
  | .cont, ⟨_, _, _, q⟩ => exact False.elim q
end RP

/-! ### the end of a law for a def around which nothing is being shown -/
namespace RP
open PySem PySem.Spec PyProof.Rows L2 HX RZ
theorem law_goes {P : Program} {w : World} {K : PySem.W.Frag} {mg mb : Str → Option Value} {k : Nat} {fa a : Addr} {fd : FuncData} {x : Str} {sp : Sp} {c : Shared} {us : List Value} {ns : List Int}
    (hK : K.In c.heap) (hm : c.heap.Ns mainGlobals mg) (hb : c.heap.Ns builtinsNs mb) (hbb : ∀ x : Str, x ≠ "__name__" → mb x = bootBuiltins x) (nl : c.heap.NoLimit) (ng : c.gens = #[])
    (ha : c.heap.get? a = some { cls := .type "list", data := .seq us.toArray }) (hi : IntsAre us ns) (hl : ns.length ≤ sizeLine) (hr : Room k callerA)
    (F : ∀ base : Heap, K.In base → base.Ns mainGlobals mg → FnOkG P w K mg base CX0 k fa fd [x] sp) (hbind : ∀ (s : Shared) (u : Value), BindsTo s fd ⟨[u], []⟩ [(x, u)])
    (hsp : ∀ G : Hp, Only G → SqL K G a (ns.map V.int) → sp [.ref a] G (fun v _ => v = .bl true) fun _ _ _ => False) :
    codeAny (model P w) callerA (.call (.ref fa) ⟨[.ref a], []⟩) (fun r c' => r = .ok (.ret (.bool true)) ∧ OldK c.heap c'.heap ∧ c'.os = c.os ∧ AllBare c'.gens) c := by
  have rv := vals_ints hi
  have main : ∀ G : Hp, Only G → SqL K G a (ns.map V.int) → HOk P w G c.heap → (∀ b, G b ≠ none → b = a) → (G a ≠ none → K.lookup a = none) →
      codeAny (model P w) callerA (.call (.ref fa) ⟨[.ref a], []⟩) (fun r c' => r = .ok (.ret (.bool true)) ∧ OldK c.heap c'.heap ∧ c'.os = c.os ∧ AllBare c'.gens) c := by
    intro G hO hS hok only own
    have away : ∀ {b : Addr}, b ≠ a → G b = none := fun {b} n => by
      rcases z : G b with _ | u
      · rfl
      · exact (n (only b (by rw [z]; exact nofun))).elim
    have ns0 : ∀ {b : Addr} {m : Str → Option Value}, c.heap.Ns b m → (hidT c.heap G).Ns b m := by
      rintro b m ⟨o, es, ep, e, d, r⟩
      refine ⟨o, es, ep, hidT_get e (away ?_), d, r⟩
      rintro rfl
      rw [ha] at e
      cases e
      exact nomatch d
    have kin : K.In (hidT c.heap G) := by
      intro b o e
      refine hidT_get (hK b o e) ?_
      rcases z : G b with _ | u
      · rfl
      · have n : G b ≠ none := by rw [z]; exact nofun
        have e' := only b n
        subst e'
        rw [own n] at e
        exact nomatch e
    have hM : Mod K mg (hidT c.heap G) := by
      obtain ⟨mc, q1, q2⟩ := nl
      exact ⟨kin, ns0 hm, ⟨mb, ns0 hb, hbb⟩, ⟨mc, ns0 q1, q2⟩⟩
    have e0 : Env0 P w K mg (hidT c.heap G) callerA [] c G := ⟨rfl, hM, fun b o e => of_hidT e, Nat.le_of_eq (hidT_size _ _), trivial, (fun b q => nomatch q), hok, .of_eq ng⟩
    refine codeAny_mono ((F _ kin (ns0 hm)).go callerA [] c G [.ref a] [.ref a] _ _ _ rfl hr e0 (hbind c (.ref a)) (.cons rfl .nil) (hsp G hO hS)) ?_
    intro r c' z
    match r, z with
    | .error _, z => exact False.elim (by simpa [CR, CX0] using z)
    | .ok (.ret u), ⟨v, G', os, bare, un, hok', r', q⟩ =>
      obtain rfl : v = .bl true := q
      obtain rfl : u = Value.bool true := r'
      refine ⟨rfl, OldK.of_keep ?_, os, bare⟩
      intro b o e
      rcases z : G b with _ | u
      · exact un.keep b o e z nofun nofun
      · rcases hO b with y | ⟨ob, xs, y⟩
        · rw [z] at y
          cases y
        · obtain ⟨e1, _⟩ := hok b _ y
          obtain ⟨e2, _⟩ := hok' b _ (un.frzs b ob _ y)
          rw [e] at e1
          cases e1
          exact e2
  rcases hk : K.lookup a with _ | o
  · refine main (fun b => if b = a then some (.frz { cls := .type "list", data := .seq us.toArray } (.lst (ns.map V.int))) else none) ?_ (.inl (.inr ⟨_, if_pos rfl⟩)) ?_ ?_ fun _ => hk
    · intro b
      by_cases e : b = a
      · exact .inr ⟨_, _, if_pos e⟩
      · exact .inl (if_neg e)
    · intro b u z
      by_cases e : b = a
      · have z' := (if_pos e).symm.trans z
        cases z'
        subst e
        exact ⟨ha, by rw [List.length_map]; exact hl, us, _, rv, ha⟩
      · exact nomatch (if_neg e).symm.trans z
    · intro b z
      by_cases e : b = a
      · exact e
      · exact absurd (if_neg e) z
  · have e := hK a o hk
    rw [ha] at e
    cases e
    have z := hi.length
    refine main (fun _ => none) (fun _ => .inl rfl) (.inr ⟨_, us.toArray, _, hk, rfl, rfl, rfl, ?_, by simpa using rv⟩) (fun b u z => nomatch z) (fun b z => absurd rfl z) fun z => absurd rfl z
    rw [List.size_toArray, z]
    exact hl
theorem walk_ofG {l : PySem.W.OpenLaw} {n k : Nat} {q : Program} {loose : List Str} {XP : (Str → Option Value) → Heap → Prop} {YP : World → Heap → Prop} {d : DefRec} {x : Str}
    (hn : l.most = some n) (hn2 : n ≤ sizeLine) (hdf : d.params.defaults = []) (hr : Room k callerA)
    (F : ∀ (w : World) (mg : Str → Option Value) (fa : Addr) (h : Heap), YP w h → h.Ns mainGlobals mg → mg d.name = some (.ref fa) → ∃ (K : PySem.W.Frag) (fd : FuncData) (sp : Sp), K.In h ∧ (∀ (s : Shared) (u : Value), BindsTo s fd ⟨[u], []⟩ [(x, u)]) ∧
      (∀ (G : Hp) (a : Addr) (ns : List Int), ns.length ≤ n → Only G → SqL K G a (ns.map V.int) → sp [.ref a] G (fun v _ => v = .bl true) fun _ _ _ => False) ∧ ∀ base : Heap, K.In base → base.Ns mainGlobals mg → FnOkG l.prog w K mg base CX0 k fa fd [x] sp) :
    PySem.W.WalkO q loose XP YP l.row.toRowW d [] (fun f vs => PySem.call f vs) := by
  refine Att.attach_call hn hdf ?_
  intro w c0 c mg mb fa o pm cd doc a us ns G Y ho hd hcd hmg hobj hints hlen hg
  obtain ⟨K, fd, sp, KX, hb, hsp, hF⟩ := F w mg fa _ Y G.T.g hmg
  exact law_goes KX G.T.g G.T.b G.T.builtins G.T.nolimit hg hobj hints (Nat.le_trans hlen hn2) hr hF hb (fun H hO hS => hsp H a ns hlen hO hS)
end RP

/-! ### a slice of a tuple, the whole of it too -/
namespace RU
open PySem PySem.Spec PyProof.Rows L2 HX RZ
def rSlU (K : PySem.W.Frag) : V → Option Int → Option Int → Hp → VK → Prop := fun x lo hi H Q => ∃ a xs, x = .ref a ∧ SqT K H a xs ∧ ∀ p H', Same H H' → SqT K H' p (cutV xs lo hi) → Q (.ref p) H'
theorem sl_tupU {X : Cx} : SlR X (rSlU X.K) := by
  intro pins s σ H x v vl vu lo hi sl Q I rx hs pl pu h
  obtain ⟨a, xs, rfl, hx, q⟩ := h
  refine sl_tupA pins s σ H _ v vl vu lo hi sl Q I rx hs pl pu ⟨a, xs, rfl, hx, fun ⟨w1, w2⟩ => q a H (Same.refl H) ?_, fun _ p hp => q p _ (same_new hp) (SqT.of upd_same)⟩
  unfold cutV
  rw [w1, w2, List.drop_zero, Nat.sub_zero, List.take_length]
  exact hx
end RU
/-! ### a tuple of written items, of which one knows that it has no dict -/
namespace RU
open PySem PySem.Spec PyProof.Rows L2 HX RZ
def tTupF (t : TA) : TE := fun σ H Q => t σ H fun xs H1 => xs.length ≤ sizeLine ∧ ∀ (p : Addr) (o : Obj), H1 p = none → o.dict = none → Q (.ref p) (upd H1 p (.frz o (.tup xs)))
theorem pe_tupF {X : Cx} {es : List Expr} {t : TA} {x1 : Nat} {pos : Pos} (h : PA X es t) : PE X (.Tuple es x1 pos) (tTupF t) := by
  refine ⟨fun pins s σ H Q I hq => ?_⟩
  refine wpAny_Tuple_spliced ?_
  refine thn (h.run pos pins s σ H _ I hq) ?_
  rintro us c ⟨xs, G, J, rel, few, go⟩
  refine ⟨by rw [← rel.length]; exact few, ?_⟩
  have free : G c.heap.objs.size = none := J.hok.fresh (Nat.le_refl _)
  have J2 : Inv X pins σ (upd G c.heap.objs.size (.frz { cls := .type "tuple", data := .seq us.toArray } (.tup xs))) { c with heap := c.heap.push { cls := .type "tuple", data := .seq us.toArray } } :=
    J.laid (t' := c.toks) (fun b u e => Heap.get?_push_of_some _ e) (Nat.le_refl _) (show ObjOk X.prog X.w _ _ _ (.frz _ (.tup xs)) from ⟨Heap.get?_push_size _ rfl, few, us, rel, _, Heap.get?_push_size _ rfl, rfl, _, rfl⟩)
  exact ⟨.ref c.heap.objs.size, _, J2, rfl, go _ _ free rfl⟩
end RU
/-! ### a part of a tuple, of which one knows that it has no dict -/
namespace RU
open PySem PySem.Spec PyProof.Rows L2 HX RZ
def rSlF (K : PySem.W.Frag) : V → Option Int → Option Int → Hp → VK → Prop := fun x lo hi H Q => ∃ a xs, x = .ref a ∧ SqT K H a xs ∧
  ¬ (HT.sIx xs.length 0 lo = 0 ∧ HT.sIx xs.length xs.length hi = xs.length) ∧ ∀ (p : Addr) (o : Obj), H p = none → o.dict = none → Q (.ref p) (upd H p (.frz o (.tup (cutV xs lo hi))))
theorem sl_tupF {X : Cx} : SlR X (rSlF X.K) := by
  rintro pins c σ G x v vl vu lo hi sl Q I rx hs pl pu ⟨a, xs, rfl, hx, nw, q⟩
  cases rx
  obtain ⟨its, r, ht, hz⟩ := I.tuple hx
  have e : its.toArray.size = xs.length := by
    rw [List.size_toArray]
    exact r.length.symm
  refine ⟨"tuple", _, PyProof.Rows.slot_tuple_getitem.lookup, ht.typeIs, ?_⟩
  refine HT.getItem_tuple_cut ht hs pl pu (by rw [e]; exact nw) ?_ (by rw [e]; exact hz)
  rw [e]
  have rel := (r.drop (HT.sIx xs.length 0 lo)).take (HT.sIx xs.length xs.length hi - HT.sIx xs.length 0 lo)
  let ob : Obj := { cls := .type "tuple", data := .seq (List.take (HT.sIx xs.length xs.length hi - HT.sIx xs.length 0 lo) (List.drop (HT.sIx xs.length 0 lo) its.toArray.toList)).toArray }
  refine ⟨.ref c.heap.objs.size, upd G c.heap.objs.size (.frz ob (.tup (cutV xs lo hi))), I.laid (t' := c.toks) (o := .frz ob (.tup (cutV xs lo hi))) (fun b u z => Heap.get?_push_of_some _ z) (Nat.le_refl _) ?_, rfl, q _ ob (I.hok.fresh (Nat.le_refl _)) rfl⟩
  exact ⟨Heap.get?_push_size _ rfl, Nat.le_trans (cutV_length xs lo hi) hz, _, rel, IsTup.new _ _⟩
end RU
/-! ### t.index(k), t a tuple of whole numbers -/
namespace RU
open PySem PySem.Spec PyProof.Rows L2 HX RZ
theorem mt_tindexI {X : Cx} : MtR X "tuple.index" (fun x xs H Q => ∃ (p : Addr) (ns : List Int) (k : Int), x = .ref p ∧ xs = [.int k] ∧ SqT X.K H p (ns.map V.int) ∧ k ∈ ns ∧ Q (.int (ns.idxOf k : Nat)) H) := by
  rintro pins c σ G x xs v us Q I rx rs ⟨p, ns, k, rfl, rfl, hq, hk, q⟩
  cases rx
  obtain ⟨u, rfl, t, rfl⟩ := vals1 rs
  obtain ⟨its, r, ⟨ob, ho, hc, n, hd⟩, hz⟩ := I.tuple hq
  obtain ⟨cls, dat, dd, sl⟩ := ob
  dsimp only at hc hd
  subst hc hd
  have hj := List.idxOf_lt_length_of_mem hk
  have sz : its.toArray.size = ns.length := by rw [List.size_toArray, ← r.length, List.length_map]
  have item : ∀ (m : Nat) (hm : m < its.toArray.size), ∃ y t', ns[m]? = some y ∧ its.toArray[m] = Value.int y t' := by
    intro m hm
    have hm2 : m < ns.length := by omega
    obtain ⟨w, hw, t', e⟩ := r.get (i := m) (x := .int ns[m]) (by simp [hm2])
    refine ⟨ns[m], t', List.getElem?_eq_getElem hm2, ?_⟩
    rw [← e]
    simpa using (List.getElem?_eq_some_iff.mp hw).2
  refine call_meets PySem.F.slot_tuple_index ⟨_, ho, rfl⟩ PySem.F.entry_tuple_index (PySem.F.args_tuple_index_2 _ _) (TI.tuple_indexAt p its.toArray n _ _ (.int k t) (eqU (.int k)) (ns.idxOf k) (by omega) ?_ ?_) ⟨ho, ?_, ⟨.int (ns.idxOf k : Nat), G, I.tok _, ⟨_, rfl⟩, q⟩⟩
  · obtain ⟨y, t', h1, h2⟩ := item (ns.idxOf k) (by omega)
    rw [h2]
    have e : ns[ns.idxOf k]? = some k := by
      rw [List.getElem?_eq_getElem hj]
      exact congrArg some (List.getElem_idxOf hj)
    rw [e] at h1
    cases h1
    exact beq_self_eq_true k
  · intro m hm hmj
    obtain ⟨y, t', h1, h2⟩ := item m hm
    rw [h2]
    refine beq_eq_false_iff_ne.mpr fun e => ?_
    subst e
    have z := List.not_of_lt_findIdx (p := (· == y)) (xs := ns) (i := m) hmj
    rw [(List.getElem?_eq_some_iff.mp h1).2] at z
    simp at z
  · intro w hw
    exact mem_eqAt (x := .int k) ⟨t, rfl⟩ rfl r (by rw [List.all_map]; exact List.all_eq_true.mpr fun _ _ => rfl) w (by simpa using hw)
end RU
/-! ### a method of a tuple, of which one knows that it has no dict -/
namespace RU
open PySem PySem.Spec PyProof.Rows L2 HX RZ
def tBMF (r : V → List V → Hp → VK → Prop) (to : TE) (t : TA) : TE := fun σ H Q => to σ H fun x H1 => (∃ (a : Addr) (ob : Obj) (xs : List V), x = .ref a ∧ H1 a = some (.frz ob (.tup xs)) ∧ ob.dict = none) ∧ t σ H1 fun vs H2 => r x vs H2 Q
theorem pe_bmF {X : Cx} {name id : String} {r : V → List V → Hp → VK → Prop} {o e : Expr} {es : List Expr} {apos cpos : Pos} {to : TE} {t : TA} (slot : Slot "tuple" name id) (hty : typeOf (.builtin id) = pure (.type "method_descriptor")) (hm : MtR X id r) (ho : PE X o to) (ha : PA X (e :: es) t)
    (hb : attributeBase o name X.env (eval o X.env) = eval o X.env := by rfl)
    (hf : ((backTo cpos (starEach (e :: es) X.env)).all (fun x => !x.1) && (backToKw cpos (keywordEach [] X.env)).all (fun x => x.1.isSome) && decide ((e :: es).length + ([] : List Keyword).length + (if ([] : List Keyword).isEmpty then 0 else 1) < 30)) = true := by rfl)
    (hl : (apos.endLine == cpos.line) = true := by rfl) (hs : starEach (e :: es) X.env = (false, eval e X.env) :: starEach es X.env := by rfl) (hp : (backTo cpos (starEach es X.env)).any (·.1) = false := by rfl) :
    PE X (.Call (.Attribute o name apos) (e :: es) [] cpos) (tBMF r to t) := by
  refine ⟨fun pins c σ G Q I h => ?_⟩
  refine wpAny_Call_method_late hb hf hl rfl ?_
  refine thn (ho.run pins c σ G _ I h) ?_
  rintro v c1 ⟨x, G1, J, rx, ⟨a, ob, xs, rfl, hx, hd⟩, q⟩
  cases rx
  obtain ⟨hg, _, its, _, tp⟩ := J.hok a _ hx
  refine ⟨"tuple", id, PySem.F.plainAttrs_tuple, slot, hty, tp.typeIs, fun b z => ?_, ?_⟩
  · cases z
    exact ⟨ob, hg, hd⟩
  have run := ha.run cpos pins c1 σ G1 _ J q
  rw [hs] at run ⊢
  refine Calls.callWith_builtin ?_ (Calls.evalArgs_plain ?_)
  · show (false || (backTo cpos (starEach es X.env)).any (·.1)) = false
    rw [hp]
    rfl
  · exact thn run fun us c2 ⟨vs, G2, J2, r2, q2⟩ => hm pins c2 σ G2 (.ref a) vs _ us Q J2 rfl r2 q2
end RU
/-! ### t + u, t not empty: a new tuple, of which one knows that it has no dict, or t itself -/
namespace RU
open PySem PySem.Spec PyProof.Rows L2 HX RZ
def rCatF (K : PySem.W.Frag) : R2 := fun x y H Q => ∃ a b xs ys, x = .ref a ∧ y = .ref b ∧ SqT K H a xs ∧ SqT K H b ys ∧ xs ≠ [] ∧ xs.length + ys.length ≤ sizeLine ∧
  (ys = [] → Q (.ref a) H) ∧ (ys ≠ [] → ∀ (p : Addr) (o : Obj), H p = none → o.dict = none → Q (.ref p) (upd H p (.frz o (.tup (xs ++ ys)))))
theorem op_catF {X : Cx} : OpR X (binaryOp .Add) (rCatF X.K) := by
  intro pins s σ H x y v u Q I rx ry h
  obtain ⟨a, b, xs, ys, rfl, rfl, ha, hb, hx, hz, q1, q2⟩ := h
  cases rx
  cases ry
  obtain ⟨its, r1, p1, _⟩ := I.tuple ha
  obtain ⟨its2, r2, p2, _⟩ := I.tuple hb
  refine HT.cat_tup p1 p2 (fun z => hx (r1.nil_iff.mp z)) (fun z => ⟨.ref a, H, I, rfl, q1 (r2.nil_iff.mp z)⟩) (fun z => ?_) (by rw [← r1.length, ← r2.length]; exact hz)
  let ob : Obj := { cls := .type "tuple", data := .seq (its ++ its2).toArray }
  refine ⟨.ref s.heap.objs.size, upd H s.heap.objs.size (.frz ob (.tup (xs ++ ys))), I.laid (t' := s.toks) (o := .frz ob (.tup (xs ++ ys))) (fun b ob q => Heap.get?_push_of_some _ q) (Nat.le_refl _) ?_, rfl, q2 (fun w => z (r2.nil_iff.mpr w)) _ ob (I.hok.fresh (Nat.le_refl _)) rfl⟩
  exact ⟨Heap.get?_push_size _ rfl, by rw [List.length_append]; exact hz, _, r1.append r2, IsTup.new _ _⟩
/-- a part of a tuple: a new one, told as one likes -/
theorem sl_tupV {X : Cx} : SlR X (fun x lo hi H Q => (∃ a xs, x = .ref a ∧ SqT X.K H a xs ∧ ¬ (HT.sIx xs.length 0 lo = 0 ∧ HT.sIx xs.length xs.length hi = xs.length) ∧ ∀ p, H p = none → Q (.ref p) (upd H p (.tup (cutV xs lo hi)))) ∨ rSlF X.K x lo hi H Q) := by
  rintro pins c σ G x v vl vu lo hi sl Q I rx hs pl pu (h | h)
  · exact sl_tup pins c σ G x v vl vu lo hi sl Q I rx hs pl pu h
  · exact sl_tupF pins c σ G x v vl vu lo hi sl Q I rx hs pl pu h
end RU
/-! ### sums of tuples, told alike whatever part is empty -/
namespace RU
open PySem PySem.Spec PyProof.Rows L2 HX RZ
def rCatG (K : PySem.W.Frag) : R2 := fun x y H Q => ∃ a b xs ys o, x = .ref a ∧ y = .ref b ∧ H a = some (.frz o (.tup xs)) ∧ o.dict = none ∧ SqT K H b ys ∧ xs ≠ [] ∧ xs.length + ys.length ≤ sizeLine ∧
  ∀ (p : Addr) (o : Obj) (H' : Hp), Same H H' → H' p = some (.frz o (.tup (xs ++ ys))) → o.dict = none → Q (.ref p) H'
theorem op_catG {X : Cx} : OpR X (binaryOp .Add) (rCatG X.K) := by
  intro pins s σ H x y v u Q I rx ry h
  obtain ⟨a, b, xs, ys, o, rfl, rfl, ha, ho, hb, hx, hz, q⟩ := h
  refine op_catF pins s σ H _ _ v u Q I rx ry ⟨a, b, xs, ys, rfl, rfl, .inl (.inr ⟨o, ha⟩), hb, hx, hz, fun z => q a o H (Same.refl H) (by rw [z, List.append_nil]; exact ha) ho, fun _ p o2 hp ho2 => q p o2 _ (same_new hp) upd_same ho2⟩
def rCatR (K : PySem.W.Frag) : R2 := fun x y H Q => ∃ a b xs ys, x = .ref a ∧ y = .ref b ∧ SqT K H a xs ∧ H b = some (.tup ys) ∧ ys ≠ [] ∧ xs.length + ys.length ≤ sizeLine ∧
  ∀ (p : Addr) (H' : Hp), Same H H' → H' p = some (.tup (xs ++ ys)) → Q (.ref p) H'
theorem op_catR {X : Cx} : OpR X (binaryOp .Add) (rCatR X.K) := by
  intro pins s σ H x y v u Q I rx ry h
  obtain ⟨a, b, xs, ys, rfl, rfl, ha, hb, hy, hz, q⟩ := h
  refine op_catA pins s σ H _ _ v u Q I rx ry ⟨a, b, xs, ys, rfl, rfl, ha, SqT.of hb, hz, fun z => q b H (Same.refl H) (by rw [z]; exact hb), fun _ z => (hy z).elim, fun _ _ p hp => q p _ (same_new hp) upd_same⟩
def rCatL (K : PySem.W.Frag) : R2 := fun x y H Q => ∃ a b xs ys, x = .ref a ∧ y = .ref b ∧ H a = some (.tup xs) ∧ SqT K H b ys ∧ xs ≠ [] ∧ xs.length + ys.length ≤ sizeLine ∧
  ∀ (p : Addr) (H' : Hp), Same H H' → H' p = some (.tup (xs ++ ys)) → Q (.ref p) H'
theorem op_catL {X : Cx} : OpR X (binaryOp .Add) (rCatL X.K) := by
  intro pins s σ H x y v u Q I rx ry h
  obtain ⟨a, b, xs, ys, rfl, rfl, ha, hb, hx, hz, q⟩ := h
  refine op_catA pins s σ H _ _ v u Q I rx ry ⟨a, b, xs, ys, rfl, rfl, SqT.of ha, hb, hz, fun z => (hx z).elim, fun _ z => q a H (Same.refl H) (by rw [z, List.append_nil]; exact ha), fun _ _ p hp => q p _ (same_new hp) upd_same⟩
end RU
/-! ### == and != of data, the fragment named -/
namespace RU
open PySem PySem.Spec PyProof.Rows L2 HX RZ
theorem eqDK {X : Cx} (K : PySem.W.Frag) (hu : X.A.units + 64 < cLine) (h : X.K = K := by rfl) : OpR X (compareOp .Eq) (rEqD K) := h ▸ op_eqD hu
theorem neDK {X : Cx} (K : PySem.W.Frag) (hu : X.A.units + 64 < cLine) (h : X.K = K := by rfl) : OpR X (compareOp .NotEq) (rNeD K) := h ▸ op_neD hu
end RU

namespace RP
open PySem PySem.Spec PyProof.Rows L2 RZ HX
/-- repr of a truth -/
theorem call_reprBl {X : Cx} : CallR X (.builtin "repr") (fun xs H Q => ∃ b : Bool, xs = [.bl b] ∧ Q (.str (if b then "True" else "False")) H) := by
  intro pins s σ H xs us Q I r h
  obtain ⟨b, rfl, q⟩ := h
  obtain ⟨u, rfl, rx⟩ := vals1 r
  obtain rfl : u = Value.bool b := rx
  exact PySem.P.repr_of_bool ⟨.str (if b then "True" else "False"), H, I.tok _, ⟨_, rfl⟩, q⟩
end RP

/-! ### set(xs) of a list of whole numbers -/
namespace RU
open PySem PySem.Spec PyProof.Rows L2 HX RZ
section
variable {P : Program} {w : World} {A : Around} {E : Value → Shared → Prop} {s : Shared}
/-- the object of a set just made -/
abbrev newSet (w : World) : Obj := { cls := .type "set", dict := none, data := .set #[] 0 (.fresh 0 0 (!w.params.followText "set-order")) }
set_option maxRecDepth 100000 in
set_option maxHeartbeats 3200000 in
theorem set_ints {l : Addr} {its : Array Value} (ks : List Int) {Q : Value → Shared → Prop} (nh : A.handled = none) (il : s.heap.IsList l its) (ii : IntsAre its.toList ks) (few : ks.length + 1 < scanBound)
    (go : ∀ (g : Heap) (tk c : Nat), SetR w g s.heap.objs.size (fun j => decide (j ∈ ks)) c → c ≤ ks.length → (∀ b o, s.heap.get? b = some o → g.get? b = some o) → Q (.ref s.heap.objs.size) { s with heap := g, toks := tk }) :
    wpAny (model P w) A (call (.type "set") [.ref l]) Q E s := by
  have sz : its.size = ks.length := (Array.length_toList (xs := its)).symm.trans (IntsAre.length ii)
  obtain ⟨cm, tm, mro⟩ := F.called_set.mro
  have made := F.called_set.made; have subs := F.called_set.sub
  refine wpAny_call (codeAny_of_tree ?_); show wpAny _ _ (callAny (.type "set") _) _ _ _
  refine wpAny_pure ⟨Code.quiet_builtin _ (by decide +kernel), codeAny_builtin PySem.F.entry_type_call ?_⟩; rw [Around.under_plain (weight_type_call_type "set" [.ref l] []) rfl]
  have f1 := F.called_set.notType; have f2 := F.called_set.canCreate; have f3 := F.typeCall_set_1 (.ref l)
  repeat (any_goals (first | assumption | wp_step))
  refine codeAny_mono (code_set_led1 (.ref l) (E := E) (Q₁ := fun u z => u = .ref s.heap.objs.size ∧ z = { s with heap := s.heap.push (newSet w) }) ⟨rfl, rfl⟩) fun r z hz => ?_
  match r, hz with
  | .error _, hz => exact hz
  | .ok (.ret u), hz =>
    obtain ⟨rfl, rfl⟩ := hz
    have at0 : (s.heap.push (newSet w)).get? s.heap.objs.size = some (newSet w) := Heap.get?_push_size _ rfl
    have isT : Shared.TypeIs { s with heap := s.heap.push (newSet w) } (.ref s.heap.objs.size) "set" := ⟨_, at0, rfl⟩
    have f4 := F.called_set.init.lookup; have f5 := F.called_set.init.bind (.ref s.heap.objs.size)
    repeat (any_goals (first | assumption | wp_step))
    refine codeAny_mono (codeAny_call_builtin (R := wants (fun r z => r = .none ∧ ∃ g tk c, z = { s with heap := g, toks := tk } ∧ SetR w g s.heap.objs.size (fun j => decide (j ∈ ks)) c ∧ c ≤ ks.length ∧
        (∀ b o, s.heap.get? b = some o → g.get? b = some o)) E) F.called_set.init.plain F.entry_set_init (check_set_init_1 isT ?_)) fun r2 z2 hz2 => ?_
    · obtain ⟨⟨oc, od, odat, osl⟩, hg, hc, nn, hd⟩ := il
      simp only at hc hd; subst hc; subst hd
      have hg' : (s.heap.push (newSet w)).get? l = some { cls := .type "list", dict := od, data := .seq its nn, slots := osl } := Heap.get?_push_of_some _ hg
      have u1 := F.sub_list_set; have u2 := F.sub_list_frozenset
      have u3 : (Value.type "list" == Value.type "dict") = false := by decide
      have il1 : (s.heap.push (newSet w)).IsList l its := ⟨_, hg', rfl, nn, rfl⟩
      unfold Builtin.«set.__init__» noKeywords Builtin.Frozenset.updateFrom; generalize hPy : pyIter = Py; wp_walk; subst hPy
      refine wpAny_pyIter_list il1 (wpAny_bind (wpAny_runValue ?_))
      have lt : l < s.heap.objs.size := Heap.lt_size hg
      have nh3 : A.in1.in1.in1.handled = none := by simp [nh]
      have ne : l ≠ (s.heap.push (newSet w)).objs.size := by rw [Heap.size_push]; exact Nat.ne_of_lt (Nat.lt_succ_of_lt lt)
      have nf : s.heap.objs.size ∉ [(s.heap.push (newSet w)).objs.size, l] := by
        rw [Heap.size_push]
        exact fun z => (List.mem_cons.mp z).elim (fun y => Nat.ne_of_lt (Nat.lt_succ_self _) y) fun y => Nat.ne_of_gt lt (List.mem_singleton.mp y)
      have vals : ∀ (i : Nat) (v : Value), its[i]? = some v → ∃ k t, ks[i]? = some k ∧ v = .int k t := fun i v hv => by
        have hi : i < ks.length := by rw [← sz]; exact (Array.getElem?_eq_some_iff.mp hv).1
        obtain ⟨t, e⟩ := IntsAre.int_at ii i v (by rw [Array.getElem?_toList]; exact hv)
        exact ⟨ks[i], t, List.getElem?_eq_getElem hi, by rw [e, List.getD_eq_getElem?_getD, List.getElem?_eq_getElem hi] <;> rfl⟩
      refine set_update_ints ((Walks.list nh3 _ l ne its).toS) s.heap.objs.size nf ks sz few vals (its.size - 0) 0 _ (by omega) (Nat.zero_le _) ⟨⟨_, Heap.get?_push_size _ rfl, rfl, rfl⟩, (il1.push _)⟩ ⟨0, Nat.le_refl 0, setR_new_at (Heap.get?_push_of_some _ at0)⟩ ?_
      rintro ⟨g, g2, d2, tk2, os2⟩ c mv hc2 hS
      obtain rfl : g2 = s.gens := mv.gens; obtain rfl : d2 = s.drawn := mv.drawn; obtain rfl : os2 = s.os := mv.os
      show wpAny _ _ _ _ _ _
      refine wpAny_pure ?_; show wpAny _ _ (ret Value.none) _ _ _
      rw [sz] at hc2
      refine wpAny_pure ⟨rfl, g, tk2, c, rfl, hS, hc2, fun b o e => ?_⟩
      have b0 := Heap.lt_size e
      exact mv.heap b o (by
        rw [Heap.size_push]
        exact fun z => (List.mem_cons.mp z).elim (fun y => Nat.ne_of_lt b0 y) fun y => Nat.ne_of_lt (Nat.lt_succ_of_lt b0) (List.mem_singleton.mp y)) (Heap.get?_push_of_some _ (Heap.get?_push_of_some _ e))
    · match r2, hz2 with
      | .error _, hz2 => exact hz2
      | .ok (.ret u2), hz2 =>
        obtain ⟨rfl, g, tk2, c, rfl, hS, hc2, keep⟩ := hz2
        repeat (any_goals (first | assumption | wp_step))
        exact go _ _ _ hS hc2 keep
end
section
variable {X : Cx}
def rSetL (K : PySem.W.Frag) (w : World) : List V → Hp → VK → Prop := fun xs H Q => ∃ (l : Addr) (ks : List Int), xs = [.ref l] ∧ SqL K H l (ks.map V.int) ∧ ks.length + 1 < scanBound ∧ ∀ (p : Addr) (c : Nat) (H' : Hp), c ≤ ks.length → Same H H' → H p = none → H' p = some (SetO w p (fun j => decide (j ∈ ks)) c) → Q (.ref p) H'
theorem call_setL (hc : X.calm = true) : CallR X (.type "set") (rSetL X.K X.w) := by
  intro pins s σ H xs us Q I r h
  obtain ⟨l, ks, rfl, hq, few, q⟩ := h
  rw [Vals.ref1 r]
  obtain ⟨its, rv, pl, hz⟩ := I.list hq
  refine set_ints ks (I.ok.hd hc) pl.isList (by simpa using ints_of_vals rv) few fun g tk c hS hc2 keep => ?_
  exact ⟨.ref s.heap.objs.size, _, I.laid (t' := tk) keep (Nat.le_refl _) (setO_new hS), rfl, q _ c _ hc2 (same_new (I.hok.fresh (Nat.le_refl _))) (I.hok.fresh (Nat.le_refl _)) upd_same⟩
/-- sorted(set) -/
def rSortSet (w : World) : List V → Hp → VK → Prop := fun vs H Q => ∃ (a : Addr) (S : Int → Bool) (n : Nat), vs = [V.ref a] ∧ H a = some (SetO w a S n) ∧ n < 64 ∧
  ∀ (ns : List Int) (p : Addr) (H' : Hp), ns.Pairwise (· < ·) → (∀ k : Int, k ∈ ns ↔ S k = true) → ns.length = n → Same H H' → H p = none → H' p = some (.lst (ns.map V.int)) → Q (.ref p) H'
theorem cr_sortedSetO (hc : X.calm = true) : CallR X (.builtin "sorted") (rSortSet X.w) := fun pins s σ H vs us Q I r ⟨a, S, n, e, ha, hn, q⟩ =>
  cr_sortedSet hc pins s σ H vs us Q I r ⟨a, S, n, e, ha, hn, fun ns p h1 h2 h3 hp => q ns p _ h1 h2 h3 (same_new hp) hp upd_same⟩
end
end RU
/-! ### t + u, tuples, whatever part is empty -/
namespace RU
open PySem PySem.Spec PyProof.Rows L2 HX RZ
def rCatS (K : PySem.W.Frag) : R2 := fun x y H Q => ∃ a b xs ys, x = .ref a ∧ y = .ref b ∧ SqT K H a xs ∧ SqT K H b ys ∧ xs.length + ys.length ≤ sizeLine ∧ ∀ (p : Addr) (H' : Hp), Same H H' → SqT K H' p (xs ++ ys) → Q (.ref p) H'
theorem op_catS {X : Cx} : OpR X (binaryOp .Add) (rCatS X.K) := by
  intro pins s σ H x y v u Q I rx ry h
  obtain ⟨a, b, xs, ys, rfl, rfl, ha, hb, hz, q⟩ := h
  refine op_catA pins s σ H _ _ v u Q I rx ry ⟨a, b, xs, ys, rfl, rfl, ha, hb, hz, fun z => q b H (Same.refl H) (by rw [z]; exact hb), fun _ z => q a H (Same.refl H) (by rw [z, List.append_nil]; exact ha), fun _ _ p hp => q p _ (same_new hp) (SqT.of upd_same)⟩
end RU
/-! ### new things, the heap behind not written out -/
namespace RU
open PySem PySem.Spec PyProof.Rows L2 HX RZ
def FzT (H : Hp) (a : Addr) (xs : List V) : Prop := ∃ o : Obj, H a = some (.frz o (.tup xs)) ∧ o.dict = none
section
variable {X : Cx} {es : List Expr} {t : TA} {pos : Pos}
def tTupS (t : TA) : TE := fun σ H Q => t σ H fun xs H1 => xs.length ≤ sizeLine ∧ ∀ (p : Addr) (H' : Hp), Same H1 H' → H1 p = none → FzT H' p xs → Q (.ref p) H'
theorem pe_tupS {x1 : Nat} (h : PA X es t) : PE X (.Tuple es x1 pos) (tTupS t) := by
  refine ⟨fun pins s σ H Q I hq => ?_⟩
  refine wpAny_Tuple_spliced ?_
  refine thn (h.run pos pins s σ H _ I hq) ?_
  rintro us c ⟨xs, G, J, rel, few, go⟩
  refine ⟨by rw [← rel.length]; exact few, ?_⟩
  have free : G c.heap.objs.size = none := J.hok.fresh (Nat.le_refl _)
  have J2 : Inv X pins σ (upd G c.heap.objs.size (.frz { cls := .type "tuple", data := .seq us.toArray } (.tup xs))) { c with heap := c.heap.push { cls := .type "tuple", data := .seq us.toArray } } :=
    J.laid (t' := c.toks) (fun b u e => Heap.get?_push_of_some _ e) (Nat.le_refl _) (show ObjOk X.prog X.w _ _ _ (.frz _ (.tup xs)) from ⟨Heap.get?_push_size _ rfl, few, us, rel, _, Heap.get?_push_size _ rfl, rfl, _, rfl⟩)
  exact ⟨.ref c.heap.objs.size, _, J2, rfl, go _ _ (same_new free) free ⟨_, upd_same, rfl⟩⟩
def tLstS (t : TA) : TE := fun σ H Q => t σ H fun xs H1 => xs.length ≤ sizeLine ∧ ∀ (p : Addr) (H' : Hp), Same H1 H' → H1 p = none → H' p = some (.lst xs) → Q (.ref p) H'
theorem pe_lstS (h : PA X es t) : PE X (.List es pos) (tLstS t) := by
  refine ⟨fun pins s σ H Q I hq => ?_⟩
  refine wpAny_List_spliced ?_
  refine thn (h.run pos pins s σ H _ I hq) ?_
  rintro us c ⟨xs, G, J, rel, few, go⟩
  refine ⟨by rw [← rel.length]; exact few, ?_⟩
  have free : G c.heap.objs.size = none := J.hok.fresh (Nat.le_refl _)
  exact ⟨.ref c.heap.objs.size, _, J.lnew (t' := c.toks) rel few, rfl, go _ _ (same_new free) free upd_same⟩
theorem op_catLS : OpR X (binaryOp .Add) (fun x y H Q => ∃ l b xs zs, x = .ref l ∧ y = .ref b ∧ H l = some (.lst xs) ∧ H b = some (.lst zs) ∧ xs.length + zs.length ≤ sizeLine ∧ ∀ (p : Addr) (H' : Hp), Same H H' → H p = none → H' p = some (.lst (xs ++ zs)) → Q (.ref p) H') :=
  fun pins s σ H x y v u Q I rx ry ⟨l, b, xs, zs, h1, h2, h3, h4, h5, q⟩ => op_cat pins s σ H x y v u Q I rx ry ⟨l, b, xs, zs, h1, h2, h3, h4, h5, fun p hp => q p _ (same_new hp) hp upd_same⟩
theorem sl_lstS : SlR X (fun x lo hi H Q => ∃ a xs, x = .ref a ∧ SqL X.K H a xs ∧ ∀ (p : Addr) (H' : Hp), Same H H' → H p = none → H' p = some (.lst (cutV xs lo hi)) → Q (.ref p) H') :=
  fun pins s σ H x v vl vu lo hi sl Q I rx hs pl pu ⟨a, xs, h1, h2, q⟩ => sl_list pins s σ H x v vl vu lo hi sl Q I rx hs pl pu ⟨a, xs, h1, h2, fun p hp => q p _ (same_new hp) hp upd_same⟩
theorem call_tupS : CallR X (.type "tuple") (fun xs H Q => ∃ p ys, xs = [.ref p] ∧ SqL X.K H p ys ∧ ∀ (l : Addr) (H' : Hp), Same H H' → H l = none → FzT H' l ys → Q (.ref l) H') :=
  fun pins s σ H xs us Q I r ⟨p, ys, h1, h2, q⟩ => call_tupF pins s σ H xs us Q I r ⟨p, ys, h1, h2, fun l o hl ho => q l _ (same_new hl) hl ⟨o, upd_same, ho⟩⟩
theorem call_lstS : CallR X (.type "list") (fun xs H Q => ∃ p ys, xs = [.ref p] ∧ (SqL X.K H p ys ∨ SqT X.K H p ys) ∧ ∀ (l : Addr) (H' : Hp), Same H H' → H l = none → H' l = some (.lst ys) → Q (.ref l) H') :=
  fun pins s σ H xs us Q I r ⟨p, ys, h1, h2, q⟩ => call_list_of pins s σ H xs us Q I r ⟨p, ys, h1, h2, fun l hl => q l _ (same_new hl) hl upd_same⟩
theorem call_dictS (hcalm : X.calm = true) : CallR X (.type "dict") (fun xs H Q => ∃ (a : Addr) (o : Obj) (ps : List Addr) (kvs : List (Key × V)), xs = [.ref a] ∧ H a = some (.frz o (.tup (ps.map V.ref))) ∧ o.dict = none ∧ Paired (fun p kv => SqT X.K H p [kV kv.1, kv.2]) ps kvs ∧
    ∀ (p : Addr) (H' : Hp), Same H H' → H p = none → H' p = some (.dK (mergeK [] kvs)) → Q (.ref p) H') :=
  fun pins s σ H xs us Q I r ⟨a, o, ps, kvs, h1, h2, h3, h4, q⟩ => call_dictT hcalm pins s σ H xs us Q I r ⟨a, o, ps, kvs, h1, h2, h3, h4, fun p hp => q p _ (same_new hp) hp upd_same⟩
end
end RU

/-! ### a call of a def that wants to know that nothing is being shown -/
namespace RP
open PySem PySem.Spec PyProof.Rows L2 HX RZ
section
variable {X : Cx} {CX : CXT} {k : Nat} {f : Addr} {fd : FuncData} {ps : List Str} {sp : Sp} {dvs : List V} {ds : List Value} {E : XK} {x : Str} {e : Expr} {es : List Expr} {t : TA} {p pos : Pos}
theorem pe_callG (F : FnOkG X.prog X.w X.K X.mg X.base CX k f fd ps sp) (len : ∀ vs H Q E, sp vs H Q E → vs.length = ps.length) (gd : X.A.guards = some []) (hr : Room k X.A) (hg : Gl X x) (hm : X.mg x = some (.ref f)) (hk : PySem.W.keepIn X.K (.ref f) = true) (hb : Binds X.K fd ps ds) (hd : Vals dvs ds) (hx : Passes CX X E)
    (ha : PA X (e :: es) t) (hdb : (x == ("__debug__" : Str)) = false := by decide) (he : starEach (e :: es) X.env = (false, eval e X.env) :: starEach es X.env := by rfl) (hpl : (backTo pos (starEach es X.env)).any (·.1) = false := by rfl) :
    PE X (.Call (.Name x p) (e :: es) [] pos) (tCall sp dvs E t) := by
  refine ⟨fun pins s σ H Q I h => wpAny_Call_Name_kw (ld_glob I hg hm ?_ hdb)⟩
  refine PySem.W.callWith_K (h₀ := X.base) I.ok.mod.kin hk (thn (ha.run pos pins s σ H _ I h) fun us c ⟨vs, G, J, r, q⟩ => ⟨J.kIn, ?_⟩) he hpl
  have rr : Vals (vs ++ dvs) (us ++ ds) := r.append hd
  have hl : (us ++ ds).length = ps.length := by rw [← rr.length]; exact len _ _ _ _ q
  refine wpAny_call (codeAny_mono (F.go X.A X.stack c G (us ++ ds) (vs ++ dvs) Q E ⟨us, []⟩ gd hr J.env0 (hb c us J.kIn hl) rr q) fun r c' z => ?_)
  match r, z with
  | .error e, z => exact hx pins σ G c e c' J z
  | .ok (.ret u), z => exact J.after z
theorem kw_only {n : Nat} {ks : List Str} {kws : List Keyword} {tk : TA} {g : List Value → List Value → List Value} {gV : List V → List V → List V} (F : FnOk X.prog X.w X.K X.mg X.base CX k f fd ps sp) (hr : Room k X.A) (hg : Gl X x) (hm : X.mg x = some (.ref f)) (hk : PySem.W.keepIn X.K (.ref f) = true) (hb : KBn X.K fd ps n ks g gV) (hx : Passes CX X E)
    (hkw : PK X kws tk) (hall : (backToKw pos (keywordEach kws X.env)).all (·.1.isSome) = true := by rfl) (hks : (backToKw pos (keywordEach kws X.env)).filterMap (·.1) = ks := by rfl) (hdb : (x == ("__debug__" : Str)) = false := by decide)
    (hpl : ((backTo pos (starEach [] X.env)).any (·.1) || (backToKw pos (keywordEach kws X.env)).any (·.1.isNone)) = false := by rfl) :
    PE X (.Call (.Name x p) [] kws pos) (tCallN n ks.length sp gV E tNil tk) := by
  refine ⟨fun pins s σ H Q I h => wpAny_Call_Name_kw (ld_glob I hg hm ?_ hdb)⟩
  refine PySem.W.callWith_KW0 (h₀ := X.base) I.ok.mod.kin hk hall ?_ hpl
  refine thn (hkw.run pos pins s σ H _ I h) fun ws c ⟨zs, G, J, rz, l1, l2, q⟩ => ⟨J.kIn, ?_⟩
  rw [hks]
  exact run_fnN (us := []) F hr hb hx J .nil rz l1 l2 q
end
theorem pi_lstK {X : Cx} (K : PySem.W.Frag) {tg l : Expr} {tl : TE} (hl : PE X l tl) (h : X.K = K := by rfl) : PI X tg l (iList K tl) := by
  subst h
  exact pi_list hl
/-- a walk over one thing or another -/
theorem pi_or {X : Cx} {tg l : Expr} {t1 t2 : TI} (h1 : PI X tg l t1) (h2 : PI X tg l t2) : PI X tg l (fun σ H R => t1 σ H R ∨ t2 σ H R) :=
  ⟨fun pins s σ H R I h => h.elim (h1.run pins s σ H R I) (h2.run pins s σ H R I)⟩
theorem pi_seq {X : Cx} {tg l : Expr} {tl : TE} (hl : PE X l tl) : PI X tg l (fun σ H R => iList X.K tl σ H R ∨ iTup X.K tl σ H R) := pi_or (pi_list hl) (pi_tup hl)
end RP

/-! ### sorted(d.items()), d a dict with whole numbers as keys and any values -/
namespace HS
open PySem PySem.Spec PyProof.Rows L2
section
variable {X : Cx}
abbrev entV (e : Int × V) : L2.Key × V := (Sum.inl e.1, e.2)
def rSortItV : List V → Hp → VK → Prop := fun vs H Q => ∃ (p a : Addr) (ks : List (Int × V)), vs = [.ref p] ∧ H p = some (DX.itemsO p a) ∧ H a = some (.dK (ks.map entV)) ∧
  ∀ (H' : Hp) (l : Addr) (ps : List (Addr × Int × V)), (∀ b o, H b = some o → H' b = some o) → H l = none → (ps.map (·.2)).Perm ks → (ps.map (·.2)).Pairwise (fun e f => e.1 < f.1) → H' l = some (.lst (ps.map fun z => V.ref z.1)) →
    (∀ z ∈ ps, H' z.1 = some (.tup [.int z.2.1, z.2.2])) → Q (.ref l) H'
theorem kv_atV : ∀ {ks : List (Int × V)} {vs : List (L2.Key × Value)}, KV (ks.map entV) vs → ∀ (j : Nat) (kv : L2.Key × Value), vs[j]? = some kv → ∃ e, ks[j]? = some e ∧ kv.1 = Sum.inl e.1 ∧ RelV e.2 kv.2
  | [], _, h, j, kv, q => by
    cases h
    simp at q
  | e :: ks, _, h, j, kv, q => by
    cases h with
    | cons r rs =>
      cases j with
      | zero =>
        have q' := Option.some.inj q
        obtain ⟨r1, r2⟩ := r
        exact ⟨e, rfl, by rw [← q']; exact r1.symm, by rw [← q']; exact r2⟩
      | succ j => exact kv_atV (ks := ks) rs j kv q
theorem cr_sortedItV (hc : X.calm = true) : CallR X (.builtin "sorted") rSortItV := by
  intro pins s σ H xs us Q I r h
  obtain ⟨p, a, ks, rfl, hp, ha, q⟩ := h
  obtain rfl := Vals.ref1 r
  have view : s.heap.IsItemsView p a := (show ObjOk X.prog X.w H s.heap p (DX.itemsO p a) from I.hok p _ hp).1
  obtain ⟨z, hd, vs', rel, o, es, ep, ho, hx, hdat, hko, hpairs, hnd⟩ := dk_of I.hok ha
  have l1 : (ks.map entV).length = vs'.length := Paired.length rel
  rw [List.length_map] at l1
  have l2 : es.size = vs'.length := by
    rw [← Pairs.length hpairs, Array.length_toList]
  rw [List.length_map] at z
  have hh : X.A.handled = none := I.ok.hd hc
  refine DT.sortedI (es := es) (ep := ep) hh view ⟨o, ho, hx, hdat⟩ (by omega) fun h' tk as hk hlt hl hG => ?_
  have lak : as.length = ks.length := by omega
  have nd : as.Nodup := List.Pairwise.imp (fun h => Nat.ne_of_lt h) hG.rise
  have pr : ∀ (j : Nat) (b : Addr), as[j]? = some b → ∃ (e : Int × V) (t : Tok) (v : Value), ks[j]? = some e ∧ RelV e.2 v ∧ h'.get? b = some { cls := .type "tuple", data := .seq #[Value.int e.1 t, v] } := by
    intro j b hj
    obtain ⟨en, he, hg⟩ := hG.pairs j b hj
    obtain ⟨kv, h1, h2, h3⟩ := pairs_at hpairs j en (by rw [Array.getElem?_toList]; exact he)
    obtain ⟨e, h4, h5, h6⟩ := kv_atV rel j kv h1
    rcases keyIs_shape h2 with ⟨i, t, e1, e2⟩ | ⟨i, t, e1, e2⟩
    · rw [h5] at e1
      cases e1
      rw [e2, h3] at hg
      exact ⟨e, t, kv.2, h4, h6, hg⟩
    · rw [h5] at e1
      cases e1
  have knd : (ks.map (·.1)).Nodup := by
    have e : vs'.map (·.1) = ks.map fun e => (Sum.inl e.1 : L2.Key) := by
      refine List.ext_getElem? fun j => ?_
      rw [List.getElem?_map, List.getElem?_map]
      cases hv : vs'[j]? with
      | none =>
        have : ks[j]? = none := List.getElem?_eq_none (by rw [l1]; exact List.getElem?_eq_none_iff.mp hv)
        rw [this]
        rfl
      | some kv =>
        obtain ⟨e, h4, h5, _⟩ := kv_atV rel j kv hv
        rw [h4]
        show some kv.1 = some _
        rw [h5]
    rw [e] at hnd
    exact List.pairwise_map.mpr (List.Pairwise.imp (fun {x y} h z => h (congrArg Sum.inl z)) (List.pairwise_map.mp hnd))
  have hob : (h'.push { cls := .type "list", data := .seq (as.map Value.ref).toArray }).get? h'.objs.size = some (seqObj "list" (as.map Value.ref).toArray 0) := Heap.get?_push_size _ rfl
  have kb : ∀ b o, s.heap.get? b = some o → (h'.push { cls := .type "list", data := .seq (as.map Value.ref).toArray }).get? b = some o := fun b o e => Heap.get?_push_of_some _ (hk b o e)
  have ne0 : ∀ b o, h'.get? b = some o → b ≠ h'.objs.size := fun b o e => Nat.ne_of_lt (Heap.lt_size e)
  generalize hh2 : h'.push { cls := .type "list", data := .seq (as.map Value.ref).toArray } = h2 at hob kb ⊢
  have ka : ∀ b o, h'.get? b = some o → h2.get? b = some o := fun b o e => by rw [← hh2]; exact Heap.get?_push_of_some _ e
  have at_ : ∀ v ∈ as.map Value.ref, ∃ (j : Nat) (b : Addr) (e : Int × V) (t : Tok) (u : Value), v = .ref b ∧ as[j]? = some b ∧ ks[j]? = some e ∧ h'.get? b = some { cls := .type "tuple", data := .seq #[Value.int e.1 t, u] } := by
    intro v hv'
    obtain ⟨b, hb, rfl⟩ := List.mem_map.mp hv'
    obtain ⟨j, hj⟩ := List.mem_iff_getElem?.mp hb
    obtain ⟨e, t, u, he, _, hg⟩ := pr j b hj
    exact ⟨j, b, e, t, u, rfl, hj, he, hg⟩
  have kf : ∀ (b : Addr) (e : Int × V) (t : Tok) (u : Value), h'.get? b = some { cls := .type "tuple", data := .seq #[Value.int e.1 t, u] } → kfI h' (.ref b) = e.1 := fun b e t u hg => kfI_of hg rfl
  have ent : ∀ v ∈ as.map Value.ref, IsEnt h2 v (kfI h' v) := by
    intro v hv
    obtain ⟨j, b, e, t, u, rfl, _, _, hg⟩ := at_ v hv
    exact ⟨b, _, t, u, 0, rfl, ka _ _ hg, rfl, by rw [kf b e t u hg]⟩
  have inj : ∀ v ∈ as.map Value.ref, ∀ u ∈ as.map Value.ref, kfI h' v = kfI h' u → v = u := by
    intro v hv u hu hvu
    obtain ⟨j, b, e, t, x1, rfl, j1, j2, hg⟩ := at_ v hv
    obtain ⟨i, c, f, t', x2, rfl, i1, i2, hg'⟩ := at_ u hu
    rw [kf b e t _ hg, kf c f t' _ hg'] at hvu
    have ej : (ks.map (·.1))[j]? = some e.1 := by rw [List.getElem?_map, j2]; rfl
    have ei : (ks.map (·.1))[i]? = some e.1 := by rw [List.getElem?_map, i2, hvu]; rfl
    have eij : j = i := (List.getElem?_inj (List.getElem?_eq_some_iff.mp ej).1 knd).mp (ej.trans ei.symm)
    subst eij
    rw [i1] at j1
    cases j1
    rfl
  refine wpAny_call_entry PyProof.Rows.slot_list_sort ⟨_, hob, rfl⟩ PyProof.Rows.entry_list_sort
    (SrtO.list_sort_ord (s := { s with heap := h2, toks := tk }) (swo_int (kfI h')) hob (by rw [List.length_map]; omega) (fun h2' => ents_sortable (s := { s with heap := h2, toks := tk }) (by omega) ent inj fun o e => ?_) fun out o1 o2 => ⟨.none, rfl, ?_⟩) (PyProof.Rows.args_list_sort _)
  · have e' : some o = some (seqObj "list" (as.map Value.ref).toArray 0) := e.symm.trans hob
    cases e'
    intro c
    exact absurd (Value.type.inj c) (by decide)
  · show EP X pins σ Q (.ref h'.objs.size) { s with heap := sortedHeap h2 h'.objs.size (as.map Value.ref) out.toArray, toks := tk }
    obtain ⟨zs, pz, ez⟩ := perm_lift (fun z : Addr × Int × V => Value.ref z.1) o2.perm (as.zip ks) (by
      rw [show (fun z : Addr × Int × V => Value.ref z.1) = Value.ref ∘ Prod.fst from rfl, ← List.map_map, List.map_fst_zip (by omega)])
    have idx : ∀ z ∈ zs, ∃ j : Nat, as[j]? = some z.1 ∧ ks[j]? = some z.2 := by
      intro z' hz'
      obtain ⟨j, hj⟩ := List.mem_iff_getElem?.mp (pz.mem_iff.mp hz')
      exact ⟨j, List.getElem?_zip_eq_some.mp hj⟩
    have hperm : (zs.map (·.2)).Perm ks := by
      have e := pz.map (·.2)
      have m2 : (as.zip ks).map (·.2) = ks := List.map_snd_zip (by rw [lak]; exact Nat.le_refl _)
      rw [m2] at e
      exact e
    have kz : ∀ z ∈ zs, kfI h' (.ref z.1) = z.2.1 := fun z hz => by
      obtain ⟨j, j1, j2⟩ := idx z hz
      obtain ⟨e, t, u, he, _, hg⟩ := pr j _ j1
      rw [kf _ e t u hg]
      rw [he] at j2
      cases j2
      rfl
    have hsort : (zs.map (·.2)).Pairwise (fun e f => e.1 < f.1) := by
      have le : (zs.map (·.2)).Pairwise (fun e f => e.1 ≤ f.1) := by
        have o1' : out.Pairwise (fun v u => decide (kfI h' u < kfI h' v) = false) := o1
        rw [← ez, List.pairwise_map] at o1'
        rw [List.pairwise_map]
        refine List.Pairwise.imp_of_mem (fun {x y} hx hy h => ?_) o1'
        have h2 := of_decide_eq_false h
        rw [kz x hx, kz y hy] at h2
        omega
      have ne : (zs.map (·.2)).Pairwise (fun e f => e.1 ≠ f.1) := by
        have n1 : ((zs.map (·.2)).map (·.1)).Nodup := (hperm.map (·.1)).nodup_iff.mpr knd
        exact List.pairwise_map.mp n1
      exact List.Pairwise.imp (fun {x y} h => by have := h.1; have := h.2; omega) (List.Pairwise.and le ne)
    have kF : ∀ b o, b ≠ h'.objs.size → h2.get? b = some o → (sortedHeap h2 h'.objs.size (as.map Value.ref) out.toArray).get? b = some o := fun b o hb e => (PyProof.Rows.sortedHeap_old hb (Heap.lt_size e)).trans e
    have kS : ∀ b o, s.heap.get? b = some o → (sortedHeap h2 h'.objs.size (as.map Value.ref) out.toArray).get? b = some o := fun b o e => kF b o (ne0 _ _ (hk b o e)) (kb b o e)
    obtain ⟨eF, heF⟩ := PyProof.Rows.sortedHeap_at (vs := as.map Value.ref) (out := out.toArray) hob
    have I1 : Inv X pins σ H { s with heap := sortedHeap h2 h'.objs.size (as.map Value.ref) out.toArray, toks := tk } := I.kept (t' := tk) kS
    have hn0 : H h'.objs.size = none := I.hok.fresh (Nat.le_of_lt hlt)
    have hlen : (zs.map fun z => V.ref z.1).length ≤ sizeLine := by
      have e := hperm.length_eq
      rw [List.length_map] at e
      rw [List.length_map]
      omega
    have rv : Vals (zs.map fun z => V.ref z.1) out := by
      rw [← ez]
      exact vals_maps (fun z : Addr × Int × V => V.ref z.1) (fun z => Value.ref z.1) zs fun _ _ => rfl
    have I2 : Inv X pins σ (upd H h'.objs.size (.lst (zs.map fun z => V.ref z.1))) { s with heap := sortedHeap h2 h'.objs.size (as.map Value.ref) out.toArray, toks := tk } :=
      I1.take (h' := sortedHeap h2 h'.objs.size (as.map Value.ref) out.toArray) (t' := tk) (fun b ob _ e => e) (I.fpOk (Nat.le_of_lt hlt) hn0) ⟨hlen, out, eF, rv, heF⟩
    obtain ⟨H2, I3, g, qt⟩ := DX.takeT (P := fun b vs => ∃ (j : Nat) (e : Int × V), as[j]? = some b ∧ ks[j]? = some e ∧ vs = [.int e.1, e.2]) I as _ I2 nd fun b hb => by
      obtain ⟨j, hj⟩ := List.mem_iff_getElem?.mp hb
      obtain ⟨e, t, u, he, hrel, hg⟩ := pr j b hj
      have hbl : s.heap.objs.size ≤ b := Nat.le_of_lt (hG.above b hb)
      refine ⟨hbl, ?_, [.int e.1, e.2], ⟨j, e, hj, he, rfl⟩, fun H3 => ⟨(by rw [sizeLine_eq]; show 2 ≤ 16777216; omega), [Value.int e.1 t, u], .cons ⟨t, rfl⟩ (.cons hrel .nil), ⟨_, kF _ _ (ne0 _ _ hg) (ka _ _ hg), rfl, 0, rfl⟩⟩⟩
      rw [upd_ne (ne0 _ _ hg)]
      exact I.hok.fresh hbl
    have gr : ∀ b o, H b = some o → H2 b = some o := fun b o e => g b o (by rw [upd_ne (ne_of_none e hn0)]; exact e)
    refine ⟨.ref h'.objs.size, H2, I3, rfl, q H2 h'.objs.size zs gr hn0 hperm hsort (g _ _ upd_same) fun z' hz' => ?_⟩
    obtain ⟨i, i1, i2⟩ := idx z' hz'
    obtain ⟨vs, ⟨j, e, j1, j2, ev⟩, hH⟩ := qt z'.1 (List.mem_of_getElem? i1)
    have eij : i = j := (List.getElem?_inj (List.getElem?_eq_some_iff.mp i1).1 nd).mp (i1.trans j1.symm)
    subst eij
    have ee : e = z'.2 := Option.some.inj (j2.symm.trans i2)
    rw [ev, ee] at hH
    exact hH
end
end HS

/-! ### x == a text, x any thing that is tracked, a dict too -/
namespace EQT
open PySem PySem.Spec PyProof.Rows L2 PySem.SeqAt
theorem str_eq_declines_any (b : Str) (u : Tok) (l : Addr) (o : Obj) (hc : o.cls = .type "dict") (es : Array DictEntry) (n : Nat) (hd : o.data = .dict es n) :
    Meets (Builtin.«str.__eq__» ⟨[.str b u, .ref l], []⟩) (fun _ R s => s.heap.get? l = some o ∧ R (.ok (.ret .notImplemented)) s) := by
  obtain ⟨cls, dd, data, sl⟩ := o
  simp only at hc hd
  subst hc hd
  exact .of_wp fun prog w A R s h => by obtain ⟨hp, g, d, tk, os⟩ := s; obtain ⟨hl, h⟩ := h; wp_walk using wpAny_loadPart' hl, wpAny_load hl; exact ⟨_, rfl, h⟩
section
variable {A : Around} {s : Shared}
theorem dict_declines {prog : Program} {w : World} {E : Value → Shared → Prop} {l : Addr} (b : Str) (u : Tok) (hl : s.TypeIs (.ref l) "dict") (F1 : Slot "dict" (cmpInfo .Eq).2.1 "dict.__eq__" ∨ True) {Q : Value → Shared → Prop} (hq : Q .notImplemented s) : wpAny (model prog w) A (call (.builtin "dict.__eq__") [.ref l, .str b u]) Q E s := by
  refine wpAny_call_entry F.slot_dict_eq hl F.entry_dict_eq ?_ (F.args_dict_eq_2 _ _)
  show wpAny _ _ (Builtin.Dict.dictSlotArgs "__eq__" ⟨[.ref l, .str b u], []⟩ >>= _) _ _ s
  refine wpAny_bind ?_
  unfold Builtin.Dict.dictSlotArgs
  refine wpAny_bind (wpAny_notOrdered_dict hl ?_)
  show wpAny _ _ (pure (Value.ref l, Value.str b u)) _ _ s
  refine wpAny_pure ?_
  refine wpAny_bind (wpAny_isInstance (T := "str") (U := "dict") (typeIs_str s b u) F.sub_str_dict ?_)
  simp only [Bool.not_false, if_true]
  exact wpAny_bind (wpAny_rule (wpAny_pure ⟨_, rfl, hq⟩))
theorem RcAt.dict_str {l : Addr} (b : Str) (u : Tok) (hlo : ∃ o es n, s.heap.get? l = some o ∧ o.cls = .type "dict" ∧ o.data = .dict es n) (hu : A.units < cLine) : RcAt A s (.ref l) (.str b u) false := fun prog w E Q h => by
  obtain ⟨o, es, n, ho, hc, hd⟩ := id hlo
  have hl : s.TypeIs (.ref l) "dict" := ⟨o, ho, hc⟩
  exact rc_eq_decline_or (k := false) hl (typeIs_str s b u) (by decide) F.sub_str_dict F.slot_dict_eq F.slot_str_eq_refl
    (fun _ hq => dict_declines b u hl (.inr trivial) hq)
    (fun _ hq => call_meets F.slot_str_eq_refl (typeIs_str s b u) F.entry_str_eq (F.args_str_eq_2 _ _) (str_eq_declines_any b u l o hc es n hd) ⟨ho, hq⟩)
    (fun _ hq => wpAny_of_eq (rfl : isSame (.ref l) (.str b u) = pure false) hq) (.inr hu) h
theorem RcAt.str_dict {l : Addr} (b : Str) (u : Tok) (hlo : ∃ o es n, s.heap.get? l = some o ∧ o.cls = .type "dict" ∧ o.data = .dict es n) (hu : A.units < cLine) : RcAt A s (.str b u) (.ref l) false := fun prog w E Q h => by
  obtain ⟨o, es, n, ho, hc, hd⟩ := id hlo
  have hl : s.TypeIs (.ref l) "dict" := ⟨o, ho, hc⟩
  exact rc_eq_decline_or (k := false) (typeIs_str s b u) hl (by decide) F.sub_dict_str F.slot_str_eq F.slot_dict_eq_refl
    (fun _ hq => call_meets F.slot_str_eq (typeIs_str s b u) F.entry_str_eq (F.args_str_eq_2 _ _) (str_eq_declines_any b u l o hc es n hd) ⟨ho, hq⟩)
    (fun _ hq => dict_declines b u hl (.inr trivial) hq)
    (fun _ hq => wpAny_of_eq (rfl : isSame (.str b u) (.ref l) = pure false) hq) (.inr hu) h
theorem EqAt.str_dict {l : Addr} (b : Str) (u : Tok) (hlo : ∃ o es n, s.heap.get? l = some o ∧ o.cls = .type "dict" ∧ o.data = .dict es n) (hu : A.units < cLine) : EqAt A s (.str b u) (.ref l) false := fun prog w E Q h => by
  unfold eqBool
  refine wpAny_holding ?_
  refine wpAny_ite_split (fun hab => absurd (eq_of_beq hab) nofun) (fun _ => ?_)
  exact wpAny_bind (RcAt.str_dict b u hlo hu prog w E _ (wpAny_truthy_bool h))
end
/-- any thing that is tracked: none, a number, a truth, a text, a list, a tuple, a dict -/
def Thg (K : PySem.W.Frag) (H : Hp) (x : V) : Prop := (∃ a xs, x = .ref a ∧ SqL K H a xs) ∨ (∃ a xs, x = .ref a ∧ SqT K H a xs) ∨ (∃ a kvs, x = .ref a ∧ H a = some (.dK kvs)) ∨ scal x (.str Str.empty) = true
/-- it is this text -/
def isStr : V → Str → Bool
  | .str t, z => decide (t = z)
  | _, _ => false
section
variable {X : Cx}
theorem dict_at {pins : List (Addr × Obj)} {σ : L2.St} {H : Hp} {s : Shared} (I : Inv X pins σ H s) {a : Addr} {kvs : List (Key × V)} (h : H a = some (.dK kvs)) : ∃ o es n, s.heap.get? a = some o ∧ o.cls = .type "dict" ∧ o.data = .dict es n := by
  obtain ⟨_, ya, va, ra, da⟩ := (show ObjOk X.prog X.w H s.heap a (.dK kvs) from I.hok a _ h)
  obtain ⟨o, es, ep, h1, h2, h3, _⟩ := da
  exact ⟨o, es, ep, h1, h2.1, h3⟩
def rEqS (K : PySem.W.Frag) : R2 := fun x y H Q => ∃ z, y = .str z ∧ Thg K H x ∧ Q (.bl (isStr x z)) H
theorem op_eqS (hu : X.A.units < cLine) : OpR X (compareOp .Eq) (rEqS X.K) := by
  intro pins s σ H x y v u Q I rx ry h
  obtain ⟨z, rfl, ht, q⟩ := h
  obtain ⟨tu, rfl⟩ := ry
  rcases ht with ⟨a, xs, rfl, ha⟩ | ⟨a, xs, rfl, ha⟩ | ⟨a, kvs, rfl, ha⟩ | hs
  · cases (show v = Value.ref a from rx)
    obtain ⟨us, r1, p1, _⟩ := I.list ha
    exact SeqAt.RcAt.list_str z tu p1.isList hu _ _ _ _ ⟨.bl _, H, I, rfl, q⟩
  · cases (show v = Value.ref a from rx)
    obtain ⟨us, r1, p1, _⟩ := I.tuple ha
    exact SeqAt.RcAt.tuple_str z tu p1 hu _ _ _ _ ⟨.bl _, H, I, rfl, q⟩
  · cases (show v = Value.ref a from rx)
    exact RcAt.dict_str z tu (dict_at I ha) hu _ _ _ _ ⟨.bl _, H, I, rfl, q⟩
  · have e : scal x (.str z) = true ∧ isStr x z = decide (x = .str z) := by
      cases x with
      | str t => exact ⟨rfl, decide_eq_decide.mpr ⟨fun h => by rw [h], fun h => by injection h⟩⟩
      | non => exact ⟨rfl, rfl⟩
      | int i => exact ⟨rfl, (decide_eq_false nofun).symm⟩
      | bl b => exact ⟨rfl, (decide_eq_false nofun).symm⟩
      | _ => exact absurd hs (by simp [scal])
    rw [e.2] at q
    exact op_eq pins s σ H x (.str z) v _ Q I rx ⟨tu, rfl⟩ ⟨e.1, q⟩
/-- a text and any thing -/
theorem eqAt_thg {pins : List (Addr × Obj)} {σ : L2.St} {H : Hp} {s : Shared} (I : Inv X pins σ H s) {A : Around} (hu : A.units < cLine) {x : V} {v : Value} (rx : RelV x v) (ht : Thg X.K H x) (z : Str) (tu : Tok) : EqAt A s (.str z tu) v (isStr x z) := by
  rcases ht with ⟨a, xs, rfl, ha⟩ | ⟨a, xs, rfl, ha⟩ | ⟨a, kvs, rfl, ha⟩ | hs
  · cases (show v = Value.ref a from rx)
    obtain ⟨us, r1, p1, _⟩ := I.list ha
    exact SeqAt.EqAt.str_list z tu p1.isList hu
  · cases (show v = Value.ref a from rx)
    obtain ⟨us, r1, p1, _⟩ := I.tuple ha
    exact SeqAt.EqAt.str_tuple z tu p1 hu
  · cases (show v = Value.ref a from rx)
    exact EqAt.str_dict z tu (dict_at I ha) hu
  · cases x with
    | str t =>
      obtain ⟨t2, rfl⟩ := rx
      have e : (z == t) = isStr (.str t) z := by
        show (z == t) = decide (t = z)
        rw [Bool.eq_iff_iff, beq_iff_eq, decide_eq_true_eq]
        exact eq_comm
      rw [← e]
      exact SeqAt.EqAt.str_str z tu t t2
    | non =>
      cases rx
      exact SeqAt.EqAt.str_none z tu
    | int i =>
      obtain ⟨t2, rfl⟩ := rx
      exact SeqAt.EqAt.str_int z tu i t2
    | bl b =>
      cases rx
      exact SeqAt.EqAt.str_bool z tu b
    | _ => exact absurd hs (by simp [scal])
def rInS (K : PySem.W.Frag) (neg : Bool) : R2 := fun x y H Q => ∃ (p : Addr) (zs : List Str), y = .ref p ∧ SqT K H p (zs.map V.str) ∧ Thg K H x ∧ Q (.bl (if neg then !(zs.any fun z => isStr x z) else zs.any fun z => isStr x z)) H
def hitU (x : V) : Value → Bool
  | .str t _ => isStr x t
  | _ => false
theorem hits_strs {x : V} : ∀ {zs : List Str} {us : List Value}, Vals (zs.map V.str) us → us.any (hitU x) = zs.any fun z => isStr x z
  | [], _, h => by cases h; rfl
  | z :: zs, _, h => by
    cases h with
    | cons r rs =>
      obtain ⟨t, rfl⟩ := r
      rw [List.any_cons, List.any_cons, hits_strs rs]
      rfl
theorem strs_mem {zs : List Str} {us : List Value} (h : Vals (zs.map V.str) us) {u : Value} (hu : u ∈ us) : ∃ z t, u = .str z t := by
  obtain ⟨j, hj⟩ := List.getElem?_of_mem hu
  have hz : ∃ y, (zs.map V.str)[j]? = some y := by
    cases e : (zs.map V.str)[j]? with
    | some y => exact ⟨y, rfl⟩
    | none =>
      rw [h.none_of e] at hj
      cases hj
  obtain ⟨y, hy⟩ := hz
  obtain ⟨u', hu', r⟩ := h.get hy
  rw [hj] at hu'
  cases hu'
  rw [List.getElem?_map] at hy
  cases hz2 : zs[j]? with
  | none => rw [hz2] at hy; cases hy
  | some z =>
    rw [hz2] at hy
    cases hy
    obtain ⟨t, rfl⟩ := r
    exact ⟨z, t, rfl⟩
theorem op_inS (hu : X.A.units + 1 < cLine) : OpR X (compareOp .In) (rInS X.K false) := by
  intro pins s σ H x y v u Q I rx ry h
  obtain ⟨p, zs, rfl, hq, ht, q⟩ := h
  cases ry
  obtain ⟨its, r, pl, hz⟩ := I.tuple hq
  refine SeqAt.in_tupleAt (hitU x) pl (fun w hw => ?_) ⟨.bl _, H, I, rfl, ?_⟩
  · obtain ⟨z, t, rfl⟩ := strs_mem r (show w ∈ its by simpa using hw)
    exact eqAt_thg I hu rx ht z t
  · rw [show its.toArray.any (hitU x) = its.any (hitU x) by simp, hits_strs r]
    exact q
theorem op_notInS (hu : X.A.units + 1 < cLine) : OpR X (compareOp .NotIn) (rInS X.K true) := by
  intro pins s σ H x y v u Q I rx ry h
  obtain ⟨p, zs, rfl, hq, ht, q⟩ := h
  cases ry
  obtain ⟨its, r, pl, hz⟩ := I.tuple hq
  refine SeqAt.notIn_tupleAt (hitU x) pl (fun w hw => ?_) ⟨.bl _, H, I, rfl, ?_⟩
  · obtain ⟨z, t, rfl⟩ := strs_mem r (show w ∈ its by simpa using hw)
    exact eqAt_thg I hu rx ht z t
  · rw [show its.toArray.any (hitU x) = its.any (hitU x) by simp, hits_strs r]
    exact q
/-- t + u, however -/
def rCatTS (K : PySem.W.Frag) : R2 := fun x y H Q => ∃ a b xs ys, x = .ref a ∧ y = .ref b ∧ SqT K H a xs ∧ SqT K H b ys ∧ xs.length + ys.length ≤ sizeLine ∧ ∀ p H', L2.Same H H' → SqT K H' p (xs ++ ys) → Q (.ref p) H'
theorem op_catTS : OpR X (binaryOp .Add) (rCatTS X.K) := by
  intro pins s σ H x y v u Q I rx ry h
  obtain ⟨a, b, xs, ys, rfl, rfl, ha, hb, hz, q⟩ := h
  refine op_catA pins s σ H _ _ v u Q I rx ry ⟨a, b, xs, ys, rfl, rfl, ha, hb, hz, fun e => ?_, fun _ e => ?_, fun _ _ p hp => q p _ (HX.same_new hp) (SqT.of upd_same)⟩
  · subst e
    exact q b H (L2.Same.refl H) hb
  · subst e
    exact q a H (L2.Same.refl H) (by rw [List.append_nil]; exact ha)
end
end EQT

/-! ### a tuple turned about: t[::-1] -/
namespace EQT
open PySem PySem.Spec PyProof.Rows L2 HT HX PySem.W
theorem fm_congr {α β : Type} {f g : α → Option β} : ∀ {l : List α}, (∀ x ∈ l, f x = g x) → l.filterMap f = l.filterMap g
  | [], _ => rfl
  | a :: l, h => by
    have ih := fm_congr (l := l) fun x hx => h x (List.mem_cons_of_mem _ hx)
    rw [List.filterMap_cons, List.filterMap_cons, h a (List.mem_cons_self ..), ih]
theorem pick_rev (xs : Array Value) : ((List.range xs.size).filterMap fun (m : Nat) => xs[((xs.size : Int) - 1 + (m : Int) * (-1)).toNat]?).toArray = xs.toList.reverse.toArray := by
  have e : (List.range xs.size).filterMap (fun (m : Nat) => xs[((xs.size : Int) - 1 + (m : Int) * (-1)).toNat]?) = ((List.range xs.size).reverse).filterMap fun m => xs[m]? := by
    rw [← krv_range, List.filterMap_map]
    refine fm_congr fun m hm => ?_
    have := List.mem_range.mp hm
    show xs[((xs.size : Int) - 1 + (m : Int) * (-1)).toNat]? = xs[xs.size - 1 - m]?
    rw [show ((xs.size : Int) - 1 + (m : Int) * (-1)).toNat = xs.size - 1 - m by omega]
  rw [e, List.filterMap_reverse]
  congr 2
  exact krv_all xs
section
variable {prog : Program} {w : World} {A : Around} {E : Value → Shared → Prop} {s : Shared}
theorem adjust_rev (n : Nat) : Builtin.Slice.sliceAdjust none none (-1) (n : Int) = ((n : Int) - 1, -1) := by
  unfold Builtin.Slice.sliceAdjust
  simp
theorem places_rev (n : Nat) : Builtin.Slice.slicePlaces ((n : Int) - 1) (-1) (-1) = n := by
  unfold Builtin.Slice.slicePlaces
  simp
  split <;> omega
theorem sliceApplied_rev {sl : Addr} {vs : Value} {n : Nat} {Q : Int × Int × Nat → Shared → Prop} (hs : s.heap.IsSliceOf sl .none .none vs) (ps : IsPart vs (some (-1)))
    (h : Q ((n : Int) - 1, -1, n) s) : wpAny (model prog w) A (Builtin.Slice.sliceApplied (.ref sl) (pure (n : Int))) Q E s := by
  obtain ⟨os, hos, hcs, hds⟩ := id hs
  unfold Builtin.Slice.sliceApplied Builtin.Slice.sliceFields
  refine wpAny_bind (wpAny_bind (wpAny_field hos hds (x := .none) rfl (wpAny_bind (wpAny_field hos hds (x := .none) rfl (wpAny_bind (wpAny_field hos hds (x := vs) rfl (wpAny_pure ?_)))))))
  refine wpAny_bind (slicePart_ ps ?_)
  show wpAny _ _ (if ((-1 : Int) == 0) = true then _ else _) _ _ s
  rw [if_neg (by decide)]
  refine wpAny_bind (slicePart_none (wpAny_bind (slicePart_none (wpAny_bind (wpAny_pure ?_)))))
  show wpAny _ _ (match Builtin.Slice.sliceAdjust none none (-1) (n : Int) with | (lo, hi) => pure (lo, (-1 : Int), Builtin.Slice.slicePlaces lo hi (-1))) _ _ s
  rw [adjust_rev n]
  show wpAny _ _ (pure ((n : Int) - 1, (-1 : Int), Builtin.Slice.slicePlaces ((n : Int) - 1) (-1) (-1))) _ _ s
  rw [places_rev]
  exact wpAny_pure h
theorem getItem_tuple_rev {t sl : Addr} {items : Array Value} {vs : Value} {Q : Value → Shared → Prop} (ht : IsTup s.heap t items) (hs : s.heap.IsSliceOf sl .none .none vs) (ps : IsPart vs (some (-1)))
    (h : Q (.ref s.heap.objs.size) { s with heap := s.heap.push { cls := .type "tuple", data := .seq items.toList.reverse.toArray } })
    (hsz : items.size ≤ sizeLine) : wpAny (model prog w) A (getItem (.ref t) (.ref sl)) Q E s := by
  have htake : sizeOk (.seq items.toList.reverse.toArray) := by
    show items.toList.reverse.toArray.size ≤ sizeLine
    rw [List.size_toArray, List.length_reverse, Array.length_toList]
    exact hsz
  obtain ⟨os, hos, hcs, hds⟩ := id hs
  have hTs : s.TypeIs (.ref sl) "slice" := ⟨os, hos, hcs⟩
  unfold getItem
  try with_reducible refine wpAny_holding ?_
  first | refine wpAny_bind (wpAny_pure ?_) | skip
  refine wpAny_bind (wpAny_sequenceKey ht.typeIs (by decide) ?_)
  refine wpAny_bind (wpAny_callSpecial?_slot (name := Str.ofString "__getitem__") ht.typeIs PyProof.Rows.slot_tuple_getitem
    (wpAny_call_entry PyProof.Rows.slot_tuple_getitem ht.typeIs entry_tuple_getitem ?_ (args_tuple_getitem _ _)))
  show wpAny _ _ (Builtin.Tuple.tupleItemsOf (.ref t) >>= _) _ _ s
  refine wpAny_bind (tupleItemsOf_ ht ?_)
  refine wpAny_bind (wpAny_typeOf hTs ?_)
  rw [if_pos (by decide)]
  refine wpAny_bind (sliceApplied_rev hs ps ?_)
  have hno : ¬ (((items.size : Int) - 1 == 0 && (-1 : Int) == 1 && items.size == items.size) = true) := by
    intro q
    rw [Bool.and_eq_true, Bool.and_eq_true] at q
    exact absurd (eq_of_beq q.1.2) (by decide)
  show wpAny _ _ (if ((items.size : Int) - 1 == 0 && (-1 : Int) == 1 && items.size == items.size) = true then _ else _) _ _ s
  rw [if_neg hno, pick_rev]
  first
    | exact wpAny_bind (m := Builtin.Tuple.tupleExact _) (wpAny_newObj_type (wpAny_pure ⟨_, rfl, wpAny_pure h⟩) htake)
    | exact wpAny_bind (m := Builtin.Tuple.tupleExact _) (wpAny_newObj_type (wpAny_bind (wpAny_pure (wpAny_pure ⟨_, rfl, wpAny_pure h⟩))) htake)
    | exact wpAny_bind (wpAny_bind (m := Builtin.Tuple.tupleExact _) (wpAny_newObj_type (wpAny_pure (wpAny_pure ⟨_, rfl, wpAny_pure h⟩)) htake))
    | exact wpAny_bind (wpAny_bind (m := Builtin.Tuple.tupleExact _) (wpAny_newObj_type (wpAny_pure ⟨_, rfl, wpAny_pure h⟩) htake))
end
/-! the rule -/
def tRevT (K : PySem.W.Frag) (te : TE) : TE := fun σ H Q => te σ H fun x H1 => ∃ a xs, x = .ref a ∧ SqT K H1 a xs ∧ ∀ p H2, Same H1 H2 → H1 p = none → RU.FzT H2 p xs.reverse → Q (.ref p) H2
theorem pe_revT {X : Cx} {e : Expr} {te : TE} {k : Nat} {p1 p2 p3 pos : Pos} (he : PE X e te) : PE X (.Subscript e (.Slice none none (some (.UnaryOp .USub (.Constant (.int 1) k p1) p2)) p3) pos) (tRevT X.K te) := by
  refine ⟨fun pins s σ H Q I h => ?_⟩
  refine Subscript_ (thn (he.run pins s σ H _ I h) fun v s1 ⟨x, H1, I1, r1, q1⟩ => ?_)
  obtain ⟨a, xs, ex, hx, q⟩ := q1
  subst ex
  cases r1
  have hst : PO X (some (.UnaryOp .USub (.Constant (.int 1) k p1) p2)) (tPart (tUn (rU fun i => .int (-i)) (tC (.int 1)))) := po_some (pe_un un_neg pe_int)
  refine wpAny_Slice (thn (po_none.run pins s1 σ H1 (fun o H2 => o = none ∧ H2 = H1) I1 ⟨rfl, rfl⟩) fun vl s2 ⟨l, H2, I2, pl, el, e2⟩ => ?_)
  subst el e2
  refine thn (po_none.run pins s2 σ H2 (fun o H3 => o = none ∧ H3 = H2) I2 ⟨rfl, rfl⟩) fun vu s3 ⟨u, H3, I3, pu, eu, e3⟩ => ?_
  subst eu e3
  refine thn (hst.run pins s3 σ H3 (fun o H4 => o = some (-1) ∧ H4 = H3) I3 ⟨1, rfl, -1, rfl, rfl, rfl⟩) fun vs s4 ⟨o, H4, I4, ps, eo, e4⟩ => ?_
  subst eo e4
  cases pl
  cases pu
  have I5 : Inv X pins σ H4 { s4 with heap := s4.heap.push { cls := .type "slice", data := .fields #[.none, .none, vs] } } := I4.kept (t' := s4.toks) fun b ob q => Heap.get?_push_of_some _ q
  obtain ⟨its, r, ht, hz⟩ := I5.tuple hx
  have hlen := r.length
  show wpAny (model X.prog X.w) X.A (subscriptTail e (.Slice none none (some (.UnaryOp .USub (.Constant (.int 1) k p1) p2)) p3) (.ref a) (.ref s4.heap.objs.size)) (EP X pins σ Q) X.xe { s4 with heap := s4.heap.push { cls := .type "slice", data := .fields #[.none, .none, vs] } }
  refine tail_any (ops := [.ref a, .ref s4.heap.objs.size]) ht.typeIs (PyProof.Rows.slot_tuple_getitem.lookup) ?_ (by with_unfolding_all rfl)
  refine getItem_tuple_rev ht (Heap.IsSliceOf.new _ .none .none vs) ps ?_ (by rw [List.size_toArray]; omega)
  let ob : Obj := { cls := .type "tuple", data := .seq its.toArray.toList.reverse.toArray }
  refine ⟨.ref _, _, I5.laid (t' := s4.toks) (o := .frz ob (.tup xs.reverse)) (fun b u z => Heap.get?_push_of_some _ z) (Nat.le_refl _) ?_, rfl, q _ _ (same_new (I5.hok.fresh (Nat.le_refl _))) (I5.hok.fresh (Nat.le_refl _)) ⟨ob, upd_same, rfl⟩⟩
  exact ⟨Heap.get?_push_size _ rfl, by rw [List.length_reverse]; exact hz, _, by simpa [ob] using r.reverse, _, Heap.get?_push_size _ rfl, rfl, _, rfl⟩
end EQT

/-! ### a tuple many times: t * n -/
namespace EQT
open PySem PySem.Spec PyProof.Rows L2 HT HX PySem.W
theorem tuple_mulSelf (l : Addr) (items : Array Value) (n : Nat) (dd : Option Addr) (sl : Array (Option Value)) (x : Int) (u : Tok) (c0 : (decide (x < -(2 ^ 63)) || decide (x ≥ 2 ^ 63)) = false) (c1 : (items.isEmpty || x == 1) = true) :
    Meets (Builtin.«tuple.__mul__» ⟨[.ref l, .int x u], []⟩) (fun _ R s => s.heap.get? l = some { cls := .type "tuple", dict := dd, data := .seq items n, slots := sl } ∧ R (.ok (.ret (Value.ref l))) s) :=
  .of_wp fun prog w A R s h => by
    obtain ⟨hp, g, d, tk, os⟩ := s
    obtain ⟨hl, h⟩ := h
    have f1 := AutoSeq1.idx_int
    wp_walk using wpAny_loadPart' hl
    repeat (first
      | (refine wpAny_ite_false (decide_eq_false (by rw [c0]; exact Bool.false_ne_true)) ?_; wp_walk using wpAny_loadPart' hl)
      | (refine wpAny_ite_true (decide_eq_true (by rw [c1])) ?_; wp_walk using wpAny_loadPart' hl))
    exact ⟨_, rfl, h⟩
def rRepTS (K : PySem.W.Frag) : R2 := fun x y H Q => ∃ l k xs, x = .ref l ∧ y = .int k ∧ SqT K H l xs ∧ 1 ≤ k ∧ k ≤ 1000 ∧ xs.length ≤ 1000 ∧ ∀ p H', L2.Same H H' → (p = l ∨ H p = none) → SqT K H' p (List.replicate k.toNat xs).flatten → Q (.ref p) H'
section
variable {X : Cx}
theorem rep_self {α : Type} {xs : List α} {k : Int} (h : xs = [] ∨ k = 1) : (List.replicate k.toNat xs).flatten = xs := by
  rcases h with rfl | rfl
  · induction k.toNat with
    | zero => rfl
    | succ n ih => rw [List.replicate_succ, List.flatten_cons, ih]; rfl
  · show (List.replicate 1 xs).flatten = xs
    simp
theorem op_repTS : OpR X (binaryOp .Mult) (rRepTS X.K) := by
  intro pins s σ H x y v u Q I rx ry h
  obtain ⟨l, k, xs, rfl, rfl, hT, h1, h2, hz, q⟩ := h
  by_cases c : xs = [] ∨ k = 1
  · cases rx
    obtain ⟨t, rfl⟩ := ry
    obtain ⟨its, r, ⟨⟨cls, dd, data, sl⟩, ho, hc, n, hd⟩, hs⟩ := I.tuple hT
    simp only at hc hd
    subst hc hd
    have hle : its.length = xs.length := r.length.symm
    have c0 : (decide (k < -(2 ^ 63)) || decide (k ≥ 2 ^ 63)) = false := by
      rw [decide_eq_false (by omega), decide_eq_false (by omega)] <;> rfl
    have c1 : (its.toArray.isEmpty || k == 1) = true := by
      rcases c with rfl | rfl
      · have e : its = [] := List.eq_nil_of_length_eq_zero hle
        subst e
        rfl
      · exact Bool.or_true _
    refine wpAny_binaryOp_repeat_ref (T := "tuple") (U := "int") (by decide) ⟨_, ho, rfl⟩ (fun s' => typeIs_int s' k t) noFill_tuple_mul F.fills_int_mul F.slot_int_rmul repeat_tuple F.slot_int_index.lookup
      (call_meets F.slot_int_rmul (typeIs_int s k t) F.entry_int_rmul (F.args_int_rmul_2 _ _) (int_rmul_tuple k t l its.toArray n dd sl)
        ⟨ho, rfl, ⟨_, ho, rfl⟩, call_meets F.slot_tuple_mul ⟨_, ho, rfl⟩ F.entry_tuple_mul (F.args_tuple_mul_2 _ _) (tuple_mulSelf l its.toArray n dd sl k t c0 c1) ⟨ho, ?_⟩⟩)
    exact ⟨.ref l, H, I, rfl, q l H (L2.Same.refl H) (.inl rfl) (by rw [rep_self c]; exact hT)⟩
  · exact op_repT pins s σ H _ _ v u Q I rx ry ⟨l, k, xs, rfl, rfl, hT, fun e => c (.inl e), by omega, h2, hz, fun p hp => q p _ (HX.same_new hp) (.inr hp) (SqT.of upd_same)⟩
end
end EQT
/-! ### methods of a builtin's value in a comprehension -/
namespace EQT
open PySem PySem.Spec PyProof.Rows L2 HT HX PySem.W
section
variable {X : Cx} {o e : Expr} {es : List Expr} {to : TE} {t : TA} {name : Str} {apos cpos : Pos} {T id : String} {r : V → List V → Hp → VK → Prop}
theorem pe_bmK (K : PySem.W.Frag) (pa : PlainAttrs T) (slot : Slot T name id) (hty : typeOf (.builtin id) = pure (.type "method_descriptor")) (hm : MtR X id r) (ho : PE X o to) (ha : PA X (e :: es) t)
    (hk : X.K = K := by rfl)
    (hbase : attributeBase o name X.env (eval o X.env) = eval o X.env := by rfl)
    (hfew : ((backTo cpos (starEach (e :: es) X.env)).all (fun x => !x.1) && (backToKw cpos (keywordEach [] X.env)).all (fun x => x.1.isSome)
      && decide ((e :: es).length + ([] : List Keyword).length + (if ([] : List Keyword).isEmpty then 0 else 1) < 30)) = true := by rfl)
    (hline : (apos.endLine == cpos.line) = true := by rfl) (hs : starEach (e :: es) X.env = (false, eval e X.env) :: starEach es X.env := by rfl) (hplain : (backTo cpos (starEach es X.env)).any (·.1) = false := by rfl) :
    PE X (.Call (.Attribute o name apos) (e :: es) [] cpos) (tBM K T r to t) := by
  subst hk
  exact pe_bm pa slot hty hm ho ha hbase hfew hline hs hplain
theorem mt_indexK (K : PySem.W.Frag) (hk : X.K = K := by rfl) : MtR X "list.index" (rIndex K) := by
  subst hk
  exact mt_index
theorem notInK (K : PySem.W.Frag) (h : X.K = K := by rfl) : OpR X (compareOp .NotIn) (rIn K true) := h ▸ op_notIn_seq
theorem inK (K : PySem.W.Frag) (h : X.K = K := by rfl) : OpR X (compareOp .In) (rIn K false) := h ▸ op_in_seq
theorem call_tupK (K : PySem.W.Frag) (h : X.K = K := by rfl) : CallR X (.type "tuple") (fun xs H Q => ∃ p ys, xs = [.ref p] ∧ SqL K H p ys ∧ ∀ (l : Addr) (H' : Hp), Same H H' → H l = none → RU.FzT H' l ys → Q (.ref l) H') := by
  subst h
  exact RU.call_tupS
/-! sums and parts of tuples: the tuple itself, or a new one -/
def rSlN (K : PySem.W.Frag) : V → Option Int → Option Int → Hp → VK → Prop := fun x lo hi H Q => ∃ a xs, x = .ref a ∧ SqT K H a xs ∧ ∀ p H', L2.Same H H' → (p = a ∨ H p = none) → SqT K H' p (cutV xs lo hi) → Q (.ref p) H'
theorem sl_tupN : SlR X (rSlN X.K) := by
  intro pins s σ H x v vl vu lo hi sl Q I rx hs pl pu h
  obtain ⟨a, xs, rfl, hx, q⟩ := h
  refine sl_tupA pins s σ H _ v vl vu lo hi sl Q I rx hs pl pu ⟨a, xs, rfl, hx, fun ⟨w1, w2⟩ => q a H (L2.Same.refl H) (.inl rfl) ?_, fun _ p hp => q p _ (HX.same_new hp) (.inr hp) (SqT.of upd_same)⟩
  unfold cutV
  rw [w1, w2, List.drop_zero, Nat.sub_zero, List.take_length]
  exact hx
def rCatTN (K : PySem.W.Frag) : R2 := fun x y H Q => ∃ a b xs ys, x = .ref a ∧ y = .ref b ∧ SqT K H a xs ∧ SqT K H b ys ∧ xs.length + ys.length ≤ sizeLine ∧ ∀ p H', L2.Same H H' → (p = a ∨ p = b ∨ H p = none) → SqT K H' p (xs ++ ys) → Q (.ref p) H'
theorem op_catTN : OpR X (binaryOp .Add) (rCatTN X.K) := by
  intro pins s σ H x y v u Q I rx ry h
  obtain ⟨a, b, xs, ys, rfl, rfl, ha, hb, hz, q⟩ := h
  refine op_catA pins s σ H _ _ v u Q I rx ry ⟨a, b, xs, ys, rfl, rfl, ha, hb, hz, fun e => ?_, fun _ e => ?_, fun _ _ p hp => q p _ (HX.same_new hp) (.inr (.inr hp)) (SqT.of upd_same)⟩
  · subst e
    exact q b H (L2.Same.refl H) (.inr (.inl rfl)) hb
  · subst e
    exact q a H (L2.Same.refl H) (.inl rfl) (by rw [List.append_nil]; exact ha)
/-! a list and a list that is given -/
theorem add_given (l : Addr) (items : Array Value) (n : Nat) (b : Addr) (items2 : Array Value) (n2 : Nat) (sl : Array (Option Value)) (hc0 : items.size + items2.size ≤ sizeLine) :
    Meets (Builtin.«list.__add__» ⟨[.ref l, .ref b], []⟩) (fun _ R s => s.heap.get? l = some { cls := .type "list", dict := none, data := .seq items n, slots := #[] } ∧ s.heap.get? b = some { cls := .type "list", dict := none, data := .seq items2 n2, slots := sl } ∧ R (.ok (.ret (Value.ref s.heap.objs.size))) { s with heap := s.heap.push { cls := Value.type "list", data := Data.seq (items ++ items2) }, toks := s.toks }) :=
  .of_wp fun prog w A R s h => by obtain ⟨hp, g, d, tk, os⟩ := s; obtain ⟨hl, hb, h⟩ := h; have f1 := AutoSeq1.idx_int; have f2 := AutoSeq1.sub_tuple_tuple; have f3 := AutoSeq1.sub_list_list; have f4 := AutoSeq1.sub_tuple_list; have f5 := AutoSeq1.sub_list_tuple; wp_walk using wpAny_loadPart' hl, wpAny_loadPart' hb; exact ⟨_, rfl, h⟩
theorem op_catQ : OpR X (binaryOp .Add) (fun x y H Q => ∃ l b xs zs, x = .ref l ∧ y = .ref b ∧ H l = some (.lst xs) ∧ SqL X.K H b zs ∧ xs.length + zs.length ≤ sizeLine ∧ ∀ (p : Addr) (H' : Hp), L2.Same H H' → H p = none → H' p = some (.lst (xs ++ zs)) → Q (.ref p) H') := by
  intro pins s σ H x y v u Q I rx ry h
  obtain ⟨l, b, xs, zs, rfl, rfl, hH, hB, hz, q⟩ := h
  cases rx
  cases ry
  obtain ⟨z, its, n, r, hl, e⟩ := I.lstM hH
  obtain ⟨its2, r2, ⟨⟨cls, dd, data, sl⟩, n2, e2, hc, hdd, hd⟩, z2⟩ := I.list hB
  simp only at hc hdd hd
  subst hc hdd hd
  have l2 := r2.length
  refine concat_meets ⟨_, e, rfl⟩ ⟨_, e2, rfl⟩ noFill_list_add seq_list_add F.slot_list_add F.entry_list_add (F.args_list_add_2 _ _) (add_given l its.toArray n b its2.toArray n2 sl (by rw [List.size_toArray, List.size_toArray]; omega)) ⟨e, e2, ?_⟩
  have ea : its.toArray ++ its2.toArray = (its ++ its2).toArray := by simp
  rw [ea]
  exact ⟨.ref _, _, I.lnew (t' := s.toks) (r.append r2) (by rw [List.length_append]; omega), rfl, q _ _ (HX.same_new I.fresh) I.fresh upd_same⟩
end
end EQT

/-! ### sorted(rows), rows a list of tuples of a whole number and any thing, the numbers unlike -/
namespace HS
open PySem PySem.Spec PyProof.Rows L2
section
variable {X : Cx}
def rSortRow (K : PySem.W.Frag) : List V → Hp → VK → Prop := fun vs H Q => ∃ (a : Addr) (ps : List (Addr × Int × V)), vs = [.ref a] ∧ SqL K H a (ps.map fun z => V.ref z.1) ∧ (∀ z ∈ ps, H z.1 = some (.tup [.int z.2.1, z.2.2])) ∧ (ps.map fun z => z.2.1).Nodup ∧
  ∀ (H' : Hp) (l : Addr) (qs : List (Addr × Int × V)), (∀ b o, H b = some o → H' b = some o) → H l = none → qs.Perm ps → qs.Pairwise (fun e f => e.2.1 < f.2.1) → H' l = some (.lst (qs.map fun z => V.ref z.1)) → Q (.ref l) H'
theorem refs_vals : ∀ {ps : List (Addr × Int × V)} {us : List Value}, Vals (ps.map fun z => V.ref z.1) us → us = ps.map fun z => Value.ref z.1
  | [], _, h => by
    cases h
    rfl
  | z :: ps, _, h => by
    cases h with
    | cons r rs =>
      rw [refs_vals rs]
      exact congrArg (fun v => v :: _) r
theorem cr_sortedRow : CallR X (.builtin "sorted") (rSortRow X.K) := by
  intro pins s σ H vs us Q I r h
  obtain ⟨a, ps, rfl, hs, hx, nd, q⟩ := h
  obtain ⟨its, rv, hl, hz⟩ := I.list hs
  rw [Vals.ref1 r]
  have ei := refs_vals rv
  have ent : ∀ z ∈ ps, IsEnt s.heap (.ref z.1) z.2.1 ∧ kfI s.heap (.ref z.1) = z.2.1 := fun z hz => by
    obtain ⟨_, its2, r2, o, ho, hc, n, hd⟩ := I.hok _ _ (hx z hz)
    obtain ⟨u1, u2, rfl, ri, rj⟩ := vals2 r2
    obtain ⟨t1, rfl⟩ := ri
    exact ⟨⟨z.1, o, t1, u2, n, rfl, ho, hc, hd⟩, kfI_of ho hd⟩
  have inj : ∀ v ∈ its, ∀ u ∈ its, kfI s.heap v = kfI s.heap u → v = u := by
    intro v hv u hu hvu
    rw [ei] at hv hu
    obtain ⟨z, hz, rfl⟩ := List.mem_map.mp hv
    obtain ⟨y, hy, rfl⟩ := List.mem_map.mp hu
    rw [(ent z hz).2, (ent y hy).2] at hvu
    obtain ⟨i, hi⟩ := List.mem_iff_getElem?.mp hz
    obtain ⟨j, hj⟩ := List.mem_iff_getElem?.mp hy
    have e1 : (ps.map fun z => z.2.1)[i]? = some z.2.1 := by rw [List.getElem?_map, hi]; rfl
    have e2 : (ps.map fun z => z.2.1)[j]? = some z.2.1 := by rw [List.getElem?_map, hj, hvu]; rfl
    have eij : i = j := (List.getElem?_inj (List.getElem?_eq_some_iff.mp e1).1 nd).mp (e1.trans e2.symm)
    subst eij
    rw [hi] at hj
    cases hj
    rfl
  refine SrtO.sorted_ord (swo_int (kfI s.heap)) hl.isList (by rw [← rv.length]; exact hz) (fun h2 h₁ a' ha kk => ?_) fun out h1 h2 => ?_
  · refine ents_sortable (s := { s with heap := h₁ }) (by omega) (fun v hv => ?_) inj fun o e => ?_
    · rw [ei] at hv
      obtain ⟨z, hz, rfl⟩ := List.mem_map.mp hv
      obtain ⟨⟨b, o, t, u, n, e, ho, hc, hd⟩, e2⟩ := ent z hz
      rw [e2]
      exact ⟨b, o, t, u, n, e, (kk b o ho).2, hc, hd⟩
    · have e' : some o = some (seqObj "list" its.toArray 0) := e.symm.trans ha
      cases e'
      intro c
      exact absurd (Value.type.inj c) (by decide)
  · obtain ⟨ep, he'⟩ := PyProof.Rows.sortedAll_at s.heap its out.toArray
    obtain ⟨zs, pz, ez⟩ := perm_lift (fun z : Addr × Int × V => Value.ref z.1) h2.perm ps ei.symm
    have rvo : Vals (zs.map fun z => V.ref z.1) out := by
      rw [← ez]
      exact vals_maps (fun z : Addr × Int × V => V.ref z.1) (fun z => Value.ref z.1) zs fun _ _ => rfl
    have hlen : (zs.map fun z => V.ref z.1).length ≤ sizeLine := by
      have e := pz.length_eq
      rw [List.length_map] at hz ⊢
      omega
    have hsort : zs.Pairwise (fun e f => e.2.1 < f.2.1) := by
      have le : zs.Pairwise (fun e f => e.2.1 ≤ f.2.1) := by
        have o1' : out.Pairwise (fun v u => decide (kfI s.heap u < kfI s.heap v) = false) := h1
        rw [← ez, List.pairwise_map] at o1'
        refine List.Pairwise.imp_of_mem (fun {x y} hx hy h => ?_) o1'
        have h2 := of_decide_eq_false h
        rw [(ent x (pz.mem_iff.mp hx)).2, (ent y (pz.mem_iff.mp hy)).2] at h2
        omega
      have ne : zs.Pairwise (fun e f => e.2.1 ≠ f.2.1) := by
        have n1 : (zs.map fun z => z.2.1).Nodup := (pz.map fun z => z.2.1).nodup_iff.mpr nd
        exact List.pairwise_map.mp n1
      exact List.Pairwise.imp (fun {x y} h => by have := h.1; have := h.2; omega) (List.Pairwise.and le ne)
    refine ⟨.ref _, upd H (s.heap.objs.size + 1) (.lst (zs.map fun z => V.ref z.1)), I.laid (t' := s.toks) (fun _ _ => PyProof.Rows.sortedAll_old) (Nat.le_succ _) ⟨hlen, out, ep, rvo, he'⟩, rfl, q _ _ zs (HX.same_new (I.hok.fresh (Nat.le_succ _))) (I.hok.fresh (Nat.le_succ _)) pz hsort upd_same⟩
end
end HS

/-! ### zip of three: TLL -/
namespace RU
open PySem PySem.Spec PyProof.Rows L2 HX RZ
def ItzTLL (K : PySem.W.Frag) (a b c : Addr) : It :=
  ⟨fun i H => ∃ (xs ys zs : List V), SqT K H a xs ∧ SqL K H b ys ∧ SqL K H c zs ∧ i < min (min xs.length ys.length) zs.length,
    fun i H v H' => ∃ T x y z, v = .ref T ∧ H T = none ∧ H' = upd H T (.tup [x, y, z]) ∧ (∀ xs, SqT K H a xs → xs[i]? = some x) ∧ (∀ ys, SqL K H b ys → ys[i]? = some y) ∧ ∀ zs, SqL K H c zs → zs[i]? = some z,
    fun i H => ∃ xs ys zs : List V, SqT K H a xs ∧ SqL K H b ys ∧ SqL K H c zs ∧ i = min (min xs.length ys.length) zs.length⟩
def ZnTLL (z TI TO i1 i2 i3 a b c : Addr) (i : Nat) (h : Heap) : Prop := IsZip h z TI TO .none ∧ IsTupOf3 h TI (.ref i1) (.ref i2) (.ref i3) ∧ (∃ x y u, IsTupOf3 h TO x y u) ∧ h.IsTupleIter i1 a i ∧ h.IsListIter i2 b i ∧ h.IsListIter i3 c i
theorem turn_zipTLL {P : Program} {w : World} {K : PySem.W.Frag} {elts : List Expr} {kk : Nat} {tpos : Pos} {a b c z TI TO i1 i2 i3 : Addr} (S : ZipSep3 z TI TO i1 i2 i3 [i1, a] [i2, b] [i3, c]) (na : a ≠ i1) (nb : b ≠ i2) (nc : c ≠ i3) :
    Turn P w K (.Tuple elts kk tpos) (ItzTLL K a b c) [z, TI, TO, i1, i2, i3] z (ZnTLL z TI TO i1 i2 i3 a b c) where
  mem := by simp
  obj := fun i h st m hm => by
    obtain ⟨hz, hTI, ⟨x, y, u, hTO⟩, ⟨o1, e1, _, d1⟩, ⟨o2, e2, _, d2⟩, ⟨o3, e3, _, d3⟩⟩ := st
    have e' : m = z ∨ m = TI ∨ m = TO ∨ m = i1 ∨ m = i2 ∨ m = i3 := by simpa using hm
    rcases e' with q | q | q | q | q | q
    · rw [q]; exact ⟨_, hz, fun v q => nomatch q⟩
    · rw [q]; exact ⟨_, hTI, fun v q => nomatch q⟩
    · rw [q]; exact ⟨_, hTO, fun v q => nomatch q⟩
    · rw [q]; exact ⟨o1, e1, fun v q => by rw [d1] at q; cases q⟩
    · rw [q]; exact ⟨o2, e2, fun v q => by rw [d2] at q; cases q⟩
    · rw [q]; exact ⟨o3, e3, fun v q => by rw [d3] at q; cases q⟩
  keep := fun i h h' st k => by
    obtain ⟨hz, hTI, ⟨x, y, u, hTO⟩, h1, h2, h3⟩ := st
    exact ⟨k z (by simp) _ hz, k TI (by simp) _ hTI, ⟨x, y, u, k TO (by simp) _ hTO⟩, h1.at fun o q => k i1 (by simp) o q, h2.at fun o q => k i2 (by simp) o q, h3.at fun o q => k i3 (by simp) o q⟩
  item := by
    intro X hP hw hK hc i pins s σ H E I hf st hg
    subst hP hw hK
    obtain ⟨hz, hTI, hTO, h1, h2, h3⟩ := st
    obtain ⟨xs, ys, zs, hqx, hqy, hqz, hlt⟩ := hg
    obtain ⟨its, rv, p, _⟩ := I.tuple hqx
    obtain ⟨its2, rv2, p2, _⟩ := I.list hqy
    obtain ⟨its3, rv3, p3, _⟩ := I.list hqz
    have hh : X.A.handled = none := I.ok.hd hc
    have W := GoesN.zip3 (prog := X.prog) (w := X.w) (A := X.A) (elts := elts) (x1 := kk) (pos := tpos) S (Draws.tuple (A := X.A.in1) hh i1 a na its.toArray) (Draws.list (A := X.A.in1) hh i2 b nb its2.toArray) (Draws.list (A := X.A.in1) hh i3 c nc its3.toArray)
    have l1 := rv.length
    have l2 := rv2.length
    have l3 := rv3.length
    refine W.goes i s (fun u s2 => ∃ x H', Inv X pins σ H' s2 ∧ RelV x u ∧ (ItzTLL X.K a b c).yld i H x H' ∧ ZnTLL z TI TO i1 i2 i3 a b c (i + 1) s2.heap ∧ ∀ b ∈ [z, TI, TO, i1, i2, i3], H' b = none) E (by simp only [List.size_toArray]; omega) ⟨hz, hTI, hTO, ⟨h1, p⟩, ⟨h2, p2.isList⟩, ⟨h3, p3.isList⟩⟩ fun v h' tk hY st' hk htk => ?_
    obtain ⟨T, u1, u2, u3, rfl, hT, e1, e2, e3, hTt⟩ := hY
    have hx : xs[i]? = some (xs[i]'(by omega)) := List.getElem?_eq_getElem (by omega)
    have hy : ys[i]? = some (ys[i]'(by omega)) := List.getElem?_eq_getElem (by omega)
    have hw' : zs[i]? = some (zs[i]'(by omega)) := List.getElem?_eq_getElem (by omega)
    obtain ⟨v1, hu1, r1⟩ := rv.get hx
    obtain ⟨v2, hu2, r2⟩ := rv2.get hy
    obtain ⟨v3, hu3, r3⟩ := rv3.get hw'
    have q1 : v1 = u1 := by
      have : its.toArray[i]? = some v1 := by simpa using hu1
      rw [this] at e1
      exact Option.some.inj e1
    have q2 : v2 = u2 := by
      have : its2.toArray[i]? = some v2 := by simpa using hu2
      rw [this] at e2
      exact Option.some.inj e2
    have q3 : v3 = u3 := by
      have : its3.toArray[i]? = some v3 := by simpa using hu3
      rw [this] at e3
      exact Option.some.inj e3
    subst q1 q2 q3
    have new : ObjOk X.prog X.w (upd H T (.tup [xs[i]'(by omega), ys[i]'(by omega), zs[i]'(by omega)])) h' T (.tup [xs[i]'(by omega), ys[i]'(by omega), zs[i]'(by omega)]) := ⟨by show 3 ≤ sizeLine; decide, [v1, v2, v3], .cons r1 (.cons r2 (.cons r3 .nil)), hTt⟩
    have hf' : ∀ m ∈ [z, TO, i1, i2, i3], FpOk X pins H m := fun m hm => hf m (by
      have e' : m = z ∨ m = TO ∨ m = i1 ∨ m = i2 ∨ m = i3 := by simpa using hm
      rcases e' with q | q | q | q | q <;> simp [q])
    have I1 := I.turnedNew (t' := tk) (ch := [z, TO, i1, i2, i3]) hk hf' hT new
    refine ⟨.ref T, _, I1, rfl, ⟨T, _, _, _, rfl, I.hok.fresh hT, rfl, fun l hl => by rw [I.tuple_inj hl hqx]; exact hx, fun l hl => by rw [I.list_inj hl hqy]; exact hy, fun l hl => by rw [I.list_inj hl hqz]; exact hw'⟩, ⟨st'.1, st'.2.1, st'.2.2.1, st'.2.2.2.1.1, st'.2.2.2.2.1.1, st'.2.2.2.2.2.1⟩, fun m hm => ?_⟩
    have e' : m = z ∨ m = TI ∨ m = TO ∨ m = i1 ∨ m = i2 ∨ m = i3 := by simpa using hm
    have hlt2 : m < s.heap.objs.size := by
      obtain ⟨x, y, u, hTO⟩ := hTO
      rcases e' with q | q | q | q | q | q
      · rw [q]; exact Heap.lt_size hz
      · rw [q]; exact Heap.lt_size hTI
      · rw [q]; exact Heap.lt_size hTO
      · rw [q]; obtain ⟨_, e1, _⟩ := h1; exact Heap.lt_size e1
      · rw [q]; obtain ⟨_, e2, _⟩ := h2; exact Heap.lt_size e2
      · rw [q]; obtain ⟨_, e3, _⟩ := h3; exact Heap.lt_size e3
    rw [upd_ne (Nat.ne_of_lt (Nat.lt_of_lt_of_le hlt2 hT))]
    exact (hf m hm).1
  done := by
    intro X hP hw hK hc i pins s σ H E I hf st hg
    subst hP hw hK
    obtain ⟨hz, hTI, hTO, h1, h2, h3⟩ := st
    obtain ⟨xs, ys, zs, hqx, hqy, hqz, hend⟩ := hg
    obtain ⟨its, rv, p, _⟩ := I.tuple hqx
    obtain ⟨its2, rv2, p2, _⟩ := I.list hqy
    obtain ⟨its3, rv3, p3, _⟩ := I.list hqz
    have hh : X.A.handled = none := I.ok.hd hc
    have W := GoesN.zip3 (prog := X.prog) (w := X.w) (A := X.A) (elts := elts) (x1 := kk) (pos := tpos) S (Draws.tuple (A := X.A.in1) hh i1 a na its.toArray) (Draws.list (A := X.A.in1) hh i2 b nb its2.toArray) (Draws.list (A := X.A.in1) hh i3 c nc its3.toArray)
    have l1 := rv.length
    have l2 := rv2.length
    have l3 := rv3.length
    have en : i = min (min its.toArray.size its2.toArray.size) its3.toArray.size := by simp only [List.size_toArray]; omega
    subst en
    have hf' : ∀ m ∈ [z, TO, i1, i2, i3], FpOk X pins H m := fun m hm => hf m (by
      have e' : m = z ∨ m = TO ∨ m = i1 ∨ m = i2 ∨ m = i3 := by simpa using hm
      rcases e' with q | q | q | q | q <;> simp [q])
    exact W.stops s (fun s1 => Inv X pins σ H s1) E ⟨hz, hTI, hTO, ⟨h1, p⟩, ⟨h2, p2.isList⟩, ⟨h3, p3.isList⟩⟩ fun h' tk hk htk => I.turnedL (t' := tk) (ch := [z, TO, i1, i2, i3]) hk hf'
  self := fun A i s Q E st h => wpAny_pyIter_zip st.1 h
def iZipTLL (K : PySem.W.Frag) (ta : TA) : TI := fun σ H R => ta σ H fun vs H1 => ∃ a b c xs ys zs, vs = [.ref a, .ref b, .ref c] ∧ SqT K H1 a xs ∧ SqL K H1 b ys ∧ SqL K H1 c zs ∧ R (ItzTLL K a b c) H1
theorem pi_zipTLL {X : Cx} {e e2 e3 : Expr} {ta : TA} {p pos tpos : Pos} {elts : List Expr} {kk : Nat} (hg : Gl X "zip") (hm : X.mg "zip" = none) (ha : PA X [e, e2, e3] ta)
    (hs : starEach [e, e2, e3] X.env = (false, eval e X.env) :: starEach [e2, e3] X.env := by rfl) (hpl : (backTo pos (starEach [e2, e3] X.env)).any (·.1) = false := by rfl) :
    PI X (.Tuple elts kk tpos) (.Call (.Name "zip" p) [e, e2, e3] [] pos) (iZipTLL X.K ta) := by
  refine ⟨fun pins s σ H R I h => ?_⟩
  refine Call_ (ld_blt I hg hm PyProof.Rows.boot_zip (PyProof.Rows.callWith_type1 (thn (ha.run pos pins s σ H _ I h) fun us s1 ⟨vs, H1, I1, r1, q1⟩ => ?_) hs hpl))
  obtain ⟨a, b, c, xs, ys, zs, ex, hqx, hqy, hqz, q⟩ := q1
  subst ex
  cases r1 with
  | cons r rr =>
    cases rr with
    | cons r' rr =>
      cases rr with
      | cons r'' rr =>
        cases rr
        cases r
        cases r'
        cases r''
        have fresh6 : ∀ m, m ∈ [s1.heap.objs.size + 5, s1.heap.objs.size + 3, s1.heap.objs.size + 4, s1.heap.objs.size, s1.heap.objs.size + 1, s1.heap.objs.size + 2] → FpOk X pins H1 m := fun m hcm => by
          have e' : m = s1.heap.objs.size + 5 ∨ m = s1.heap.objs.size + 3 ∨ m = s1.heap.objs.size + 4 ∨ m = s1.heap.objs.size ∨ m = s1.heap.objs.size + 1 ∨ m = s1.heap.objs.size + 2 := by simpa using hcm
          have hle : s1.heap.objs.size ≤ m := by
            rcases e' with z | z | z | z | z | z
            · rw [z]; exact Nat.le_add_right _ _
            · rw [z]; exact Nat.le_add_right _ _
            · rw [z]; exact Nat.le_add_right _ _
            · rw [z]; exact Nat.le_refl _
            · rw [z]; exact Nat.le_add_right _ _
            · rw [z]; exact Nat.le_add_right _ _
          exact I1.fpOk hle (I1.hok.fresh hle)
        obtain ⟨its, rv, p1, _⟩ := I1.tuple hqx
        obtain ⟨its2, rv2, p2, _⟩ := I1.list hqy
        obtain ⟨its3, rv3, p3, _⟩ := I1.list hqz
        obtain ⟨o1, ho1, _⟩ := id p1
        obtain ⟨o2, _, ho2, _⟩ := id p2
        obtain ⟨o3, _, ho3, _⟩ := id p3
        have la := Heap.lt_size ho1
        have lb := Heap.lt_size ho2
        have lc := Heap.lt_size ho3
        refine zip_begins3 (begins_tuple a its.toArray) (begins_list b its2.toArray) (begins_list c its3.toArray) p1 p2.isList p3.isList fun h' hz hTI hTO h1 h2 h3 hsz hk => wpAny_pyIter_zip hz ?_
        have I2 : Inv X pins σ H1 { s1 with heap := h' } := I1.kept (t' := s1.toks) hk
        have S : ZipSep3 (s1.heap.objs.size + 5) (s1.heap.objs.size + 3) (s1.heap.objs.size + 4) s1.heap.objs.size (s1.heap.objs.size + 1) (s1.heap.objs.size + 2) [s1.heap.objs.size, a] [s1.heap.objs.size + 1, b] [s1.heap.objs.size + 2, c] :=
          zip_sep3 (fun m hm => by rw [List.mem_singleton.mp hm]; exact la) (fun m hm => by rw [List.mem_singleton.mp hm]; exact lb) (fun m hm => by rw [List.mem_singleton.mp hm]; exact lc)
        exact ⟨s1.heap.objs.size + 5, [s1.heap.objs.size + 5, s1.heap.objs.size + 3, s1.heap.objs.size + 4, s1.heap.objs.size, s1.heap.objs.size + 1, s1.heap.objs.size + 2], _, _, H1, rfl, I2,
          turn_zipTLL S (Nat.ne_of_lt la) (Nat.ne_of_lt (Nat.lt_of_lt_of_le lb (Nat.le_add_right _ _))) (Nat.ne_of_lt (Nat.lt_of_lt_of_le lc (Nat.le_add_right _ _))), ⟨hz, hTI, ⟨_, _, _, hTO⟩, ⟨_, h1, rfl, rfl⟩, ⟨_, h2, rfl, rfl⟩, ⟨_, h3, rfl, rfl⟩⟩, fresh6, q⟩
def YTripTLL (xs ys zs : Nat → Option V) : Nat → Hp → V → Hp → Prop := fun i H v H' => ∃ T x y z, v = .ref T ∧ H T = none ∧ H' = upd H T (.tup [x, y, z]) ∧ xs i = some x ∧ ys i = some y ∧ zs i = some z
theorem walk_zipTLL {K : PySem.W.Frag} {a b c : Addr} {xs ys zs : List V} {n : Nat} (hn : n = min (min xs.length ys.length) zs.length) : Walk (ItzTLL K a b c) n (fun H => SqT K H a xs ∧ SqL K H b ys ∧ SqL K H c zs) (YTripTLL (fun i => xs[i]?) (fun i => ys[i]?) (fun i => zs[i]?)) := by
  subst hn
  refine ⟨fun i _ hi q => ⟨xs, ys, zs, q.1, q.2.1, q.2.2, hi⟩, fun _ q => ⟨xs, ys, zs, q.1, q.2.1, q.2.2, rfl⟩, fun i H v H' _ q y => ?_⟩
  obtain ⟨T, x, y1, z, h1, h2, h3, h4, h5, h6⟩ := y
  exact ⟨T, x, y1, z, h1, h2, h3, h4 xs q.1, h5 ys q.2.1, h6 zs q.2.2⟩
end RU
/-! ### sorted of a tuple of whole numbers -/
namespace HS
open PySem PySem.Spec PyProof.Rows L2
section
variable {X : Cx}
theorem collect_t {prog : Program} {w : World} {A : Around} {E : Value → Shared → Prop} {s : Shared} {Q : List Value → Shared → Prop} (c0 : Addr) {u : Obj} {xs : Array Value} {m : Nat} (g1 : s.heap.get? c0 = some u) (g2 : u.cls = .type "tuple") (g3 : u.data = .seq xs m) (z : xs.size ≤ sizeLine)
    (hQ : ∀ h', (∀ b o, s.heap.get? b = some o → h'.get? b = some o) → s.heap.objs.size ≤ h'.objs.size → Q xs.toList { s with heap := h' }) : wpAny (model prog w) A (collect (.ref c0)) Q E s := by
  have e0 : ∀ g : Heap, g = s.heap.push { cls := .type "list", data := .seq ([] : List Value).toArray } → g.get? s.heap.objs.size = some { cls := .type "list", data := .seq #[] 0 } ∧ (∀ b o, s.heap.get? b = some o → g.get? b = some o) ∧ s.heap.objs.size < g.objs.size := fun g e => by
    have x1 : g.get? s.heap.objs.size = some { cls := .type "list", data := .seq #[] 0 } := by rw [e]; exact Heap.get?_push_size _ rfl
    exact ⟨x1, fun b o k => by rw [e]; exact Heap.get?_push_of_some _ k, Heap.lt_size x1⟩
  obtain ⟨x1, x2, x3⟩ := e0 _ rfl
  unfold collect
  apply wpAny_bind
  apply wpAny_runValue
  apply codeAny_builtin F.entry_proto_collect
  rw [Around.under_plainId F.plain_proto_collect _]
  change wpAny _ A.in1 (newList [] >>= fun v => again (.builtin "list.__iadd__" ⟨[v, .ref c0], []⟩)) _ _ s
  apply wpAny_bind
  refine (wpAny_newObj_type ?_)
  apply wpAny_pure
  refine ⟨plainId_quiet F.plain_list_iadd _, ?_⟩
  apply codeAny_builtin F.entry_list_iadd
  rw [Around.under_plainId F.plain_list_iadd _]
  generalize s.heap.push { cls := .type "list", data := .seq ([] : List Value).toArray } = g at x1 x2 x3 ⊢
  change wpAny _ A.in1 (Builtin.List.listExtendWith (.ref s.heap.objs.size) (.ref c0) (.ref s.heap.objs.size)) _ _ { s with heap := g }
  have y1 := Heap.get?_update_self (Obj.mapSeq (· ++ xs)) x1 rfl
  have y2 : Q xs.toList { s with heap := g.update s.heap.objs.size (Obj.mapSeq (· ++ xs)) } := by
    refine hQ _ (fun b o k => ?_) ?_
    · exact (Heap.get?_update_other _ _ (Nat.ne_of_gt (Heap.lt_size k))).trans (x2 b o k)
    · rw [Heap.size_update]
      exact Nat.le_of_lt x3
  have y3 : ∀ (G : Value → Sem (List Value)), G = (fun v => match v with
      | Value.ref a => do
        match (← load a).data with
          | Data.seq ys _ => pure ys.toList
          | _ => unsupported "internal:collect"
      | _ => unsupported "internal:collect") → wpAny (model prog w) A (G (.ref s.heap.objs.size)) Q E { s with heap := g.update s.heap.objs.size (Obj.mapSeq (· ++ xs)) } := fun G e => by
    rw [e]
    change wpAny _ A (load s.heap.objs.size >>= _) _ _ _
    apply wpAny_bind
    apply wpAny_load y1
    apply wpAny_pure
    have e9 : ((#[] : Array Value) ++ xs).toList = xs.toList := by simp
    change Q ((#[] : Array Value) ++ xs).toList _
    rw [e9]
    exact y2
  refine wpAny_mono (wpAny_extend_seq (hsz := z) (A := A) (R := fun r t => r = .ok (.ret (.ref s.heap.objs.size)) ∧ t = { s with heap := g.update s.heap.objs.size (Obj.mapSeq (· ++ xs)) }) (s := { s with heap := g }) _ c0 _ 0 (.inr rfl) x1 (x2 _ _ g1) g2 g3 ⟨rfl, rfl⟩) (fun f t k => ?_) (fun f t k => ?_)
  · cases f with
    | done f =>
      obtain ⟨e, rfl⟩ := k
      cases e
      exact y3 _ rfl
    | again c => exact ⟨k.1, codeAny_mono k.2 fun r t' kr => by obtain ⟨rfl, rfl⟩ := kr; exact y3 _ rfl⟩
  · exact absurd k.1 (by simp)
def rSortTI (K : PySem.W.Frag) : List V → Hp → VK → Prop := fun vs H Q => ∃ (a : Addr) (ns : List Int), vs = [V.ref a] ∧ SqT K H a (ns.map V.int) ∧
  ∀ (ns' : List Int) (p : Addr) (H' : Hp), L2.Same H H' → ns'.Perm ns → ns'.Pairwise (· ≤ ·) → H p = none → H' p = some (.lst (ns'.map V.int)) → Q (.ref p) H'
theorem cr_sortedTI : CallR X (.builtin "sorted") (rSortTI X.K) := by
  intro pins s σ H vs us Q I r h
  obtain ⟨a, ns, rfl, hs, q⟩ := h
  obtain ⟨its, rv, ⟨o, ho, hc, n, hd⟩, hz⟩ := I.tuple hs
  rw [Vals.ref1 r]
  have hi := rv.ints
  have hlen := rv.length
  have small : its.toArray.toList.length ≤ sizeLine := by
    show its.length ≤ sizeLine
    omega
  apply Calls.call_function_entry kind_sorted plain_sorted entry_sorted (args_sorted1 _)
  unfold Builtin.«sorted»
  apply wpAny_bind (m := checkCount "sorted" 1 1 _)
  apply wpAny_pure
  apply wpAny_bind
  apply collect_t a ho hc hd (by rw [List.size_toArray]; omega)
  intro h1 k1 big
  apply wpAny_bind
  apply wpAny_newList _ small
  have new : (h1.push (seqObj "list" its.toArray 0)).get? h1.objs.size = some (seqObj "list" its.toArray 0) := Heap.get?_push_size _ rfl
  have keep : ∀ b o, s.heap.get? b = some o → b ≠ h1.objs.size ∧ (h1.push (seqObj "list" its.toArray 0)).get? b = some o := fun b o e => ⟨Nat.ne_of_lt (Nat.lt_of_lt_of_le (Heap.lt_size e) big), Heap.get?_push_of_some _ (k1 b o e)⟩
  have lt1 : h1.objs.size < (h1.push (seqObj "list" its.toArray 0)).objs.size := Heap.lt_size new
  generalize h1.push (seqObj "list" its.toArray 0) = h2 at new keep lt1
  apply wpAny_bind
  apply wpAny_holding
  refine wpAny_call_entry slot_list_sort ⟨_, new, rfl⟩ entry_list_sort (SrtO.list_sort_ord SrtO.swo_int new (by omega) (fun g => SrtO.ints_sortable hi g) fun out o1 o2 => ⟨_, rfl, ?_⟩) (args_list_sort _)
  obtain ⟨k2, k3, k4⟩ := SrtO.ints_out hi o1 o2
  obtain ⟨ep, he'⟩ := PyProof.Rows.sortedHeap_at (vs := its) (out := out.toArray) new
  have l9 : ((out.map SrtO.iv).map V.int).length ≤ sizeLine := by
    rw [List.length_map, k3.length_eq]
    rw [List.length_map] at hz
    exact hz
  refine wpAny_pure ⟨_, rfl, .ref _, upd H h1.objs.size (.lst ((out.map SrtO.iv).map V.int)), I.laid (t' := s.toks) (fun b o e => ?_) big ⟨l9, out, ep, vals_of_ints k2, he'⟩, rfl, ?_⟩
  · exact (PyProof.Rows.sortedHeap_old (keep b o e).1 (Heap.lt_size (keep b o e).2)).trans (keep b o e).2
  · exact q _ _ _ (HX.same_new (I.hok.fresh big)) k3 k4 (I.hok.fresh big) upd_same
end
end HS

/-! ### zip of three lists -/
namespace RU
open PySem PySem.Spec PyProof.Rows L2 HX RZ
def ItzLLL (K : PySem.W.Frag) (a b c : Addr) : It :=
  ⟨fun i H => ∃ (xs ys zs : List V), SqL K H a xs ∧ SqL K H b ys ∧ SqL K H c zs ∧ i < min (min xs.length ys.length) zs.length,
    fun i H v H' => ∃ T x y z, v = .ref T ∧ H T = none ∧ H' = upd H T (.tup [x, y, z]) ∧ (∀ xs, SqL K H a xs → xs[i]? = some x) ∧ (∀ ys, SqL K H b ys → ys[i]? = some y) ∧ ∀ zs, SqL K H c zs → zs[i]? = some z,
    fun i H => ∃ xs ys zs : List V, SqL K H a xs ∧ SqL K H b ys ∧ SqL K H c zs ∧ i = min (min xs.length ys.length) zs.length⟩
def ZnLLL (z TI TO i1 i2 i3 a b c : Addr) (i : Nat) (h : Heap) : Prop := IsZip h z TI TO .none ∧ IsTupOf3 h TI (.ref i1) (.ref i2) (.ref i3) ∧ (∃ x y u, IsTupOf3 h TO x y u) ∧ h.IsListIter i1 a i ∧ h.IsListIter i2 b i ∧ h.IsListIter i3 c i
theorem turn_zipLLL {P : Program} {w : World} {K : PySem.W.Frag} {elts : List Expr} {kk : Nat} {tpos : Pos} {a b c z TI TO i1 i2 i3 : Addr} (S : ZipSep3 z TI TO i1 i2 i3 [i1, a] [i2, b] [i3, c]) (na : a ≠ i1) (nb : b ≠ i2) (nc : c ≠ i3) :
    Turn P w K (.Tuple elts kk tpos) (ItzLLL K a b c) [z, TI, TO, i1, i2, i3] z (ZnLLL z TI TO i1 i2 i3 a b c) where
  mem := by simp
  obj := fun i h st m hm => by
    obtain ⟨hz, hTI, ⟨x, y, u, hTO⟩, ⟨o1, e1, _, d1⟩, ⟨o2, e2, _, d2⟩, ⟨o3, e3, _, d3⟩⟩ := st
    have e' : m = z ∨ m = TI ∨ m = TO ∨ m = i1 ∨ m = i2 ∨ m = i3 := by simpa using hm
    rcases e' with q | q | q | q | q | q
    · rw [q]; exact ⟨_, hz, fun v q => nomatch q⟩
    · rw [q]; exact ⟨_, hTI, fun v q => nomatch q⟩
    · rw [q]; exact ⟨_, hTO, fun v q => nomatch q⟩
    · rw [q]; exact ⟨o1, e1, fun v q => by rw [d1] at q; cases q⟩
    · rw [q]; exact ⟨o2, e2, fun v q => by rw [d2] at q; cases q⟩
    · rw [q]; exact ⟨o3, e3, fun v q => by rw [d3] at q; cases q⟩
  keep := fun i h h' st k => by
    obtain ⟨hz, hTI, ⟨x, y, u, hTO⟩, h1, h2, h3⟩ := st
    exact ⟨k z (by simp) _ hz, k TI (by simp) _ hTI, ⟨x, y, u, k TO (by simp) _ hTO⟩, h1.at fun o q => k i1 (by simp) o q, h2.at fun o q => k i2 (by simp) o q, h3.at fun o q => k i3 (by simp) o q⟩
  item := by
    intro X hP hw hK hc i pins s σ H E I hf st hg
    subst hP hw hK
    obtain ⟨hz, hTI, hTO, h1, h2, h3⟩ := st
    obtain ⟨xs, ys, zs, hqx, hqy, hqz, hlt⟩ := hg
    obtain ⟨its, rv, p, _⟩ := I.list hqx
    obtain ⟨its2, rv2, p2, _⟩ := I.list hqy
    obtain ⟨its3, rv3, p3, _⟩ := I.list hqz
    have hh : X.A.handled = none := I.ok.hd hc
    have W := GoesN.zip3 (prog := X.prog) (w := X.w) (A := X.A) (elts := elts) (x1 := kk) (pos := tpos) S (Draws.list (A := X.A.in1) hh i1 a na its.toArray) (Draws.list (A := X.A.in1) hh i2 b nb its2.toArray) (Draws.list (A := X.A.in1) hh i3 c nc its3.toArray)
    have l1 := rv.length
    have l2 := rv2.length
    have l3 := rv3.length
    refine W.goes i s (fun u s2 => ∃ x H', Inv X pins σ H' s2 ∧ RelV x u ∧ (ItzLLL X.K a b c).yld i H x H' ∧ ZnLLL z TI TO i1 i2 i3 a b c (i + 1) s2.heap ∧ ∀ b ∈ [z, TI, TO, i1, i2, i3], H' b = none) E (by simp only [List.size_toArray]; omega) ⟨hz, hTI, hTO, ⟨h1, p.isList⟩, ⟨h2, p2.isList⟩, ⟨h3, p3.isList⟩⟩ fun v h' tk hY st' hk htk => ?_
    obtain ⟨T, u1, u2, u3, rfl, hT, e1, e2, e3, hTt⟩ := hY
    have hx : xs[i]? = some (xs[i]'(by omega)) := List.getElem?_eq_getElem (by omega)
    have hy : ys[i]? = some (ys[i]'(by omega)) := List.getElem?_eq_getElem (by omega)
    have hw' : zs[i]? = some (zs[i]'(by omega)) := List.getElem?_eq_getElem (by omega)
    obtain ⟨v1, hu1, r1⟩ := rv.get hx
    obtain ⟨v2, hu2, r2⟩ := rv2.get hy
    obtain ⟨v3, hu3, r3⟩ := rv3.get hw'
    have q1 : v1 = u1 := by
      have : its.toArray[i]? = some v1 := by simpa using hu1
      rw [this] at e1
      exact Option.some.inj e1
    have q2 : v2 = u2 := by
      have : its2.toArray[i]? = some v2 := by simpa using hu2
      rw [this] at e2
      exact Option.some.inj e2
    have q3 : v3 = u3 := by
      have : its3.toArray[i]? = some v3 := by simpa using hu3
      rw [this] at e3
      exact Option.some.inj e3
    subst q1 q2 q3
    have new : ObjOk X.prog X.w (upd H T (.tup [xs[i]'(by omega), ys[i]'(by omega), zs[i]'(by omega)])) h' T (.tup [xs[i]'(by omega), ys[i]'(by omega), zs[i]'(by omega)]) := ⟨by show 3 ≤ sizeLine; decide, [v1, v2, v3], .cons r1 (.cons r2 (.cons r3 .nil)), hTt⟩
    have hf' : ∀ m ∈ [z, TO, i1, i2, i3], FpOk X pins H m := fun m hm => hf m (by
      have e' : m = z ∨ m = TO ∨ m = i1 ∨ m = i2 ∨ m = i3 := by simpa using hm
      rcases e' with q | q | q | q | q <;> simp [q])
    have I1 := I.turnedNew (t' := tk) (ch := [z, TO, i1, i2, i3]) hk hf' hT new
    refine ⟨.ref T, _, I1, rfl, ⟨T, _, _, _, rfl, I.hok.fresh hT, rfl, fun l hl => by rw [I.list_inj hl hqx]; exact hx, fun l hl => by rw [I.list_inj hl hqy]; exact hy, fun l hl => by rw [I.list_inj hl hqz]; exact hw'⟩, ⟨st'.1, st'.2.1, st'.2.2.1, st'.2.2.2.1.1, st'.2.2.2.2.1.1, st'.2.2.2.2.2.1⟩, fun m hm => ?_⟩
    have e' : m = z ∨ m = TI ∨ m = TO ∨ m = i1 ∨ m = i2 ∨ m = i3 := by simpa using hm
    have hlt2 : m < s.heap.objs.size := by
      obtain ⟨x, y, u, hTO⟩ := hTO
      rcases e' with q | q | q | q | q | q
      · rw [q]; exact Heap.lt_size hz
      · rw [q]; exact Heap.lt_size hTI
      · rw [q]; exact Heap.lt_size hTO
      · rw [q]; obtain ⟨_, e1, _⟩ := h1; exact Heap.lt_size e1
      · rw [q]; obtain ⟨_, e2, _⟩ := h2; exact Heap.lt_size e2
      · rw [q]; obtain ⟨_, e3, _⟩ := h3; exact Heap.lt_size e3
    rw [upd_ne (Nat.ne_of_lt (Nat.lt_of_lt_of_le hlt2 hT))]
    exact (hf m hm).1
  done := by
    intro X hP hw hK hc i pins s σ H E I hf st hg
    subst hP hw hK
    obtain ⟨hz, hTI, hTO, h1, h2, h3⟩ := st
    obtain ⟨xs, ys, zs, hqx, hqy, hqz, hend⟩ := hg
    obtain ⟨its, rv, p, _⟩ := I.list hqx
    obtain ⟨its2, rv2, p2, _⟩ := I.list hqy
    obtain ⟨its3, rv3, p3, _⟩ := I.list hqz
    have hh : X.A.handled = none := I.ok.hd hc
    have W := GoesN.zip3 (prog := X.prog) (w := X.w) (A := X.A) (elts := elts) (x1 := kk) (pos := tpos) S (Draws.list (A := X.A.in1) hh i1 a na its.toArray) (Draws.list (A := X.A.in1) hh i2 b nb its2.toArray) (Draws.list (A := X.A.in1) hh i3 c nc its3.toArray)
    have l1 := rv.length
    have l2 := rv2.length
    have l3 := rv3.length
    have en : i = min (min its.toArray.size its2.toArray.size) its3.toArray.size := by simp only [List.size_toArray]; omega
    subst en
    have hf' : ∀ m ∈ [z, TO, i1, i2, i3], FpOk X pins H m := fun m hm => hf m (by
      have e' : m = z ∨ m = TO ∨ m = i1 ∨ m = i2 ∨ m = i3 := by simpa using hm
      rcases e' with q | q | q | q | q <;> simp [q])
    exact W.stops s (fun s1 => Inv X pins σ H s1) E ⟨hz, hTI, hTO, ⟨h1, p.isList⟩, ⟨h2, p2.isList⟩, ⟨h3, p3.isList⟩⟩ fun h' tk hk htk => I.turnedL (t' := tk) (ch := [z, TO, i1, i2, i3]) hk hf'
  self := fun A i s Q E st h => wpAny_pyIter_zip st.1 h
def iZipLLL (K : PySem.W.Frag) (ta : TA) : TI := fun σ H R => ta σ H fun vs H1 => ∃ a b c xs ys zs, vs = [.ref a, .ref b, .ref c] ∧ SqL K H1 a xs ∧ SqL K H1 b ys ∧ SqL K H1 c zs ∧ R (ItzLLL K a b c) H1
theorem pi_zipLLL {X : Cx} {e e2 e3 : Expr} {ta : TA} {p pos tpos : Pos} {elts : List Expr} {kk : Nat} (hg : Gl X "zip") (hm : X.mg "zip" = none) (ha : PA X [e, e2, e3] ta)
    (hs : starEach [e, e2, e3] X.env = (false, eval e X.env) :: starEach [e2, e3] X.env := by rfl) (hpl : (backTo pos (starEach [e2, e3] X.env)).any (·.1) = false := by rfl) :
    PI X (.Tuple elts kk tpos) (.Call (.Name "zip" p) [e, e2, e3] [] pos) (iZipLLL X.K ta) := by
  refine ⟨fun pins s σ H R I h => ?_⟩
  refine Call_ (ld_blt I hg hm PyProof.Rows.boot_zip (PyProof.Rows.callWith_type1 (thn (ha.run pos pins s σ H _ I h) fun us s1 ⟨vs, H1, I1, r1, q1⟩ => ?_) hs hpl))
  obtain ⟨a, b, c, xs, ys, zs, ex, hqx, hqy, hqz, q⟩ := q1
  subst ex
  cases r1 with
  | cons r rr =>
    cases rr with
    | cons r' rr =>
      cases rr with
      | cons r'' rr =>
        cases rr
        cases r
        cases r'
        cases r''
        have fresh6 : ∀ m, m ∈ [s1.heap.objs.size + 5, s1.heap.objs.size + 3, s1.heap.objs.size + 4, s1.heap.objs.size, s1.heap.objs.size + 1, s1.heap.objs.size + 2] → FpOk X pins H1 m := fun m hcm => by
          have e' : m = s1.heap.objs.size + 5 ∨ m = s1.heap.objs.size + 3 ∨ m = s1.heap.objs.size + 4 ∨ m = s1.heap.objs.size ∨ m = s1.heap.objs.size + 1 ∨ m = s1.heap.objs.size + 2 := by simpa using hcm
          have hle : s1.heap.objs.size ≤ m := by
            rcases e' with z | z | z | z | z | z
            · rw [z]; exact Nat.le_add_right _ _
            · rw [z]; exact Nat.le_add_right _ _
            · rw [z]; exact Nat.le_add_right _ _
            · rw [z]; exact Nat.le_refl _
            · rw [z]; exact Nat.le_add_right _ _
            · rw [z]; exact Nat.le_add_right _ _
          exact I1.fpOk hle (I1.hok.fresh hle)
        obtain ⟨its, rv, p1, _⟩ := I1.list hqx
        obtain ⟨its2, rv2, p2, _⟩ := I1.list hqy
        obtain ⟨its3, rv3, p3, _⟩ := I1.list hqz
        obtain ⟨o1, _, ho1, _⟩ := id p1
        obtain ⟨o2, _, ho2, _⟩ := id p2
        obtain ⟨o3, _, ho3, _⟩ := id p3
        have la := Heap.lt_size ho1
        have lb := Heap.lt_size ho2
        have lc := Heap.lt_size ho3
        refine zip_begins3 (begins_list a its.toArray) (begins_list b its2.toArray) (begins_list c its3.toArray) p1.isList p2.isList p3.isList fun h' hz hTI hTO h1 h2 h3 hsz hk => wpAny_pyIter_zip hz ?_
        have I2 : Inv X pins σ H1 { s1 with heap := h' } := I1.kept (t' := s1.toks) hk
        have S : ZipSep3 (s1.heap.objs.size + 5) (s1.heap.objs.size + 3) (s1.heap.objs.size + 4) s1.heap.objs.size (s1.heap.objs.size + 1) (s1.heap.objs.size + 2) [s1.heap.objs.size, a] [s1.heap.objs.size + 1, b] [s1.heap.objs.size + 2, c] :=
          zip_sep3 (fun m hm => by rw [List.mem_singleton.mp hm]; exact la) (fun m hm => by rw [List.mem_singleton.mp hm]; exact lb) (fun m hm => by rw [List.mem_singleton.mp hm]; exact lc)
        exact ⟨s1.heap.objs.size + 5, [s1.heap.objs.size + 5, s1.heap.objs.size + 3, s1.heap.objs.size + 4, s1.heap.objs.size, s1.heap.objs.size + 1, s1.heap.objs.size + 2], _, _, H1, rfl, I2,
          turn_zipLLL S (Nat.ne_of_lt la) (Nat.ne_of_lt (Nat.lt_of_lt_of_le lb (Nat.le_add_right _ _))) (Nat.ne_of_lt (Nat.lt_of_lt_of_le lc (Nat.le_add_right _ _))), ⟨hz, hTI, ⟨_, _, _, hTO⟩, ⟨_, h1, rfl, rfl⟩, ⟨_, h2, rfl, rfl⟩, ⟨_, h3, rfl, rfl⟩⟩, fresh6, q⟩
def YTripLLL (xs ys zs : Nat → Option V) : Nat → Hp → V → Hp → Prop := fun i H v H' => ∃ T x y z, v = .ref T ∧ H T = none ∧ H' = upd H T (.tup [x, y, z]) ∧ xs i = some x ∧ ys i = some y ∧ zs i = some z
theorem walk_zipLLL {K : PySem.W.Frag} {a b c : Addr} {xs ys zs : List V} {n : Nat} (hn : n = min (min xs.length ys.length) zs.length) : Walk (ItzLLL K a b c) n (fun H => SqL K H a xs ∧ SqL K H b ys ∧ SqL K H c zs) (YTripLLL (fun i => xs[i]?) (fun i => ys[i]?) (fun i => zs[i]?)) := by
  subst hn
  refine ⟨fun i _ hi q => ⟨xs, ys, zs, q.1, q.2.1, q.2.2, hi⟩, fun _ q => ⟨xs, ys, zs, q.1, q.2.1, q.2.2, rfl⟩, fun i H v H' _ q y => ?_⟩
  obtain ⟨T, x, y1, z, h1, h2, h3, h4, h5, h6⟩ := y
  exact ⟨T, x, y1, z, h1, h2, h3, h4 xs q.1, h5 ys q.2.1, h6 zs q.2.2⟩
end RU

/-! ### tuple(reversed(list)): a new tuple without dict -/
namespace RU
open PySem PySem.Spec PyProof.Rows L2 HX RZ
def tRevF (K : PySem.W.Frag) (te : TE) : TE := fun σ H Q => te σ H fun v G => ∃ (l : Addr) (ys : List V), v = .ref l ∧ SqL K G l ys ∧ ∀ (p : Addr) (G' : Hp), Same G G' → G p = none → FzT G' p ys.reverse → Q (.ref p) G'
section
variable {X : Cx}
theorem pe_revF {x : Expr} {tx : TE} {q1 q2 q3 q4 : Pos} (calm : X.calm = true) (g1 : Gl X "tuple") (n1 : X.mg "tuple" = none) (g2 : Gl X "reversed") (n2 : X.mg "reversed" = none) (hx : PE X x tx)
    (ea : starEach [x] X.env = (false, eval x X.env) :: starEach [] X.env := by rfl)
    (eb : starEach [.Call (.Name "reversed" q2) [x] [] q4] X.env = (false, eval (.Call (.Name "reversed" q2) [x] [] q4) X.env) :: starEach [] X.env := by rfl) :
    PE X (.Call (.Name "tuple" q1) [.Call (.Name "reversed" q2) [x] [] q4] [] q3) (tRevF X.K tx) := by
  refine ⟨fun pins s σ H Q I hq => ?_⟩
  refine Call_ (ld_blt I g1 n1 boot_tuple (PyProof.Rows.callWith_type1 (args_cons (Call_ (ld_blt I g2 n2 PyProof.Rows.boot_reversed (PyProof.Rows.callWith_type1 (args_cons (thn (hx.run pins s σ H _ I hq) ?_) ea) ea rfl))) eb) eb rfl))
  rintro u c ⟨v, G, J, rv, l, ys, rfl, hl, go⟩
  refine args_nil ?_
  cases rv
  obtain ⟨us, rel, pl, few⟩ := J.list hl
  have few' : us.toArray.size ≤ sizeLine := by rw [List.size_toArray, ← rel.length]; exact few
  refine PySem.call_reversed_list pl.isList (args_nil ?_)
  generalize hr : revObj l ((us.toArray.size : Int) - 1) = ro
  have J1 : Inv X pins σ G { c with heap := c.heap.push ro } := J.kept (t' := c.toks) fun b o e => Heap.get?_push_of_some _ e
  obtain ⟨w0, w1, w2, w3, w4, w5⟩ := J.fpOk (H' := G) (b := c.heap.objs.size) (Nat.le_refl _) (J.hok.fresh (Nat.le_refl _))
  have isl := pl.isList
  have nl : l ≠ c.heap.objs.size := by
    obtain ⟨ol, hol, _⟩ := id isl
    exact Nat.ne_of_lt (Heap.lt_size hol)
  have atr : (c.heap.push ro).get? c.heap.objs.size = some ro := Heap.get?_push_size _ (by rw [← hr]; rfl)
  refine RT.call_tuple_rev (s := { c with heap := c.heap.push ro }) (J.ok.hd calm) ⟨ro, atr, by rw [← hr]; rfl, by rw [← hr]; rfl⟩ (isl.push _) nl few' fun h' tk acc hk hi => ?_
  have J2 : Inv X pins σ G { c with heap := h', toks := tk } := J1.turned (t' := tk) (fun b o hb e => hk b o hb e) w0 w1 w3 w4 w5
  have free : G h'.objs.size = none := J2.hok.fresh (Nat.le_refl _)
  have J3 : Inv X pins σ (upd G h'.objs.size (.frz { cls := .type "tuple", data := .seq acc } (.tup ys.reverse))) { c with heap := h'.push { cls := .type "tuple", data := .seq acc }, toks := tk } :=
    J2.laid (t' := tk) (fun b o e => Heap.get?_push_of_some _ e) (Nat.le_refl _) (show ObjOk X.prog X.w _ _ _ (.frz _ (.tup ys.reverse)) from ⟨Heap.get?_push_size _ rfl, by rw [List.length_reverse]; exact few, acc.toList, RT.vals_rev rel hi, by rw [Array.toArray_toList]; exact IsTup.new _ _⟩)
  exact ⟨.ref h'.objs.size, _, J3, rfl, go _ _ (same_new free) free ⟨_, upd_same, rfl⟩⟩
end
end RU
/-! ### plain tuples put together, told alike whichever is empty -/
namespace RU
open PySem PySem.Spec PyProof.Rows L2 HX RZ
def rCatP : R2 := fun x y H Q => ∃ a b xs ys, x = .ref a ∧ y = .ref b ∧ H a = some (.tup xs) ∧ H b = some (.tup ys) ∧ xs.length + ys.length ≤ sizeLine ∧ ∀ (p : Addr) (H' : Hp), Same H H' → H' p = some (.tup (xs ++ ys)) → Q (.ref p) H'
theorem op_catP {X : Cx} : OpR X (binaryOp .Add) rCatP := by
  intro pins s σ H x y v u Q I rx ry h
  obtain ⟨a, b, xs, ys, rfl, rfl, ha, hb, hz, q⟩ := h
  exact op_catA pins s σ H _ _ v u Q I rx ry ⟨a, b, xs, ys, rfl, rfl, SqT.of ha, SqT.of hb, hz, fun z => q b H (Same.refl H) (by rw [z]; exact hb), fun _ z => q a H (Same.refl H) (by rw [z, List.append_nil]; exact ha), fun _ _ p hp => q p _ (same_new hp) upd_same⟩
end RU

namespace K29
open PySem PySem.Spec PyProof.Rows L2 RZ HX
def top (i : Nat) : Stmt := PySem.Challenge.pw_latchgrove_k29_shapes_of_trees.main.body.getD i (.Pass ⟨0, 0, 0, 0⟩)
abbrev s_is_whole : Stmt := top 12
abbrev s_is_between : Stmt := top 13
abbrev s_is_row : Stmt := top 14
abbrev s_is_key : Stmt := top 15
abbrev s_is_value : Stmt := top 16
abbrev s_is_room : Stmt := top 17
abbrev s_half_of : Stmt := top 18
abbrev s_is_pair : Stmt := top 19
abbrev s_are_pairs : Stmt := top 20
abbrev s_are_rising : Stmt := top 21
abbrev s_are_rising_pairs : Stmt := top 22
abbrev s_is_page_number : Stmt := top 23
abbrev s_is_leaf : Stmt := top 24
abbrev s_is_node : Stmt := top 25
abbrev s_is_page : Stmt := top 26
abbrev s_parts_of : Stmt := top 27
abbrev s_is_numbered_page : Stmt := top 29
abbrev s_are_numbered_pages : Stmt := top 30
abbrev s_levels_from : Stmt := top 31
abbrev s_sizes_fit : Stmt := top 32
abbrev s_bounds_of : Stmt := top 33
abbrev s_keys_fit : Stmt := top 34
abbrev s_nexts_fit : Stmt := top 35
abbrev s_is_sound : Stmt := top 36
abbrev s_need_room : Stmt := top 38
abbrev s_need_key : Stmt := top 39
abbrev s_need_tree : Stmt := top 40
abbrev s_empty : Stmt := top 43
abbrev s_shape_of : Stmt := top 45
abbrev s_shape_beneath : Stmt := top 46
abbrev s_joined : Stmt := top 48
abbrev s_parted : Stmt := top 49
abbrev s_kid_place : Stmt := top 51
abbrev s_value_in : Stmt := top 52
abbrev s_mate_in : Stmt := top 53
abbrev s_Book_init : Stmt := inClass (top 54) 0
abbrev s_Book_tree : Stmt := inClass (top 54) 1
abbrev s_Book_way : Stmt := inClass (top 54) 2
abbrev s_Book_many_parts : Stmt := inClass (top 54) 3
abbrev s_Book_has_key : Stmt := inClass (top 54) 4
abbrev s_Book_free_number : Stmt := inClass (top 54) 6
abbrev s_drop : Stmt := top 56
abbrev s_drop_in : Stmt := top 57
abbrev s_fill_up : Stmt := top 58
abbrev s_mend : Stmt := top 59
abbrev s_put_in : Stmt := top 61
abbrev s_part_up : Stmt := top 62
abbrev s_part : Stmt := top 63
abbrev s_add_kid : Stmt := top 64
abbrev s_planted : Stmt := top 65
abbrev s_law_pot : Stmt := top 67
abbrev s_law_take : Stmt := top 68
abbrev s_law_shape : Stmt := top 69
abbrev s_law_many : Stmt := top 70
abbrev s_law_pages : Stmt := top 71
abbrev s_law_pairs : Stmt := top 72
abbrev s_law_laid : Stmt := top 73
abbrev s_law_leaves : Stmt := top 74
abbrev s_law_tree : Stmt := top 75
abbrev s_law_pairs_of : Stmt := top 76
abbrev s_law_same : Stmt := top 77
abbrev s_law_walked : Stmt := top 78
abbrev s_law_right : Stmt := top 79
abbrev s_law_renamed : Stmt := top 80
abbrev s_law : Stmt := top 81
theorem sc_is_whole : FnScope ["thing"] ["thing"] (defScope s_is_whole) := ⟨rfl, rfl, rfl, by decide +kernel, rfl, by decide +kernel, by decide +kernel⟩
theorem sc_is_between : FnScope ["thing", "low", "high"] ["thing", "low", "high"] (defScope s_is_between) := ⟨rfl, rfl, rfl, by decide +kernel, rfl, by decide +kernel, by decide +kernel⟩
theorem sc_is_row : FnScope ["thing", "many"] ["thing", "many"] (defScope s_is_row) := ⟨rfl, rfl, rfl, by decide +kernel, rfl, by decide +kernel, by decide +kernel⟩
theorem sc_is_key : FnScope ["thing"] ["thing"] (defScope s_is_key) := ⟨rfl, rfl, rfl, by decide +kernel, rfl, by decide +kernel, by decide +kernel⟩
theorem sc_is_value : FnScope ["thing"] ["thing"] (defScope s_is_value) := ⟨rfl, rfl, rfl, by decide +kernel, rfl, by decide +kernel, by decide +kernel⟩
theorem sc_is_room : FnScope ["thing"] ["thing"] (defScope s_is_room) := ⟨rfl, rfl, rfl, by decide +kernel, rfl, by decide +kernel, by decide +kernel⟩
theorem sc_half_of : FnScope ["room"] ["room"] (defScope s_half_of) := ⟨rfl, rfl, rfl, by decide +kernel, rfl, by decide +kernel, by decide +kernel⟩
theorem sc_is_pair : FnScope ["thing"] ["thing"] (defScope s_is_pair) := ⟨rfl, rfl, rfl, by decide +kernel, rfl, by decide +kernel, by decide +kernel⟩
theorem sc_are_pairs : FnScope ["thing", "pair"] ["thing"] (defScope s_are_pairs) := ⟨rfl, rfl, rfl, by decide +kernel, rfl, by decide +kernel, by decide +kernel⟩
theorem sc_are_rising : FnScope ["things", "one", "other"] ["things"] (defScope s_are_rising) := ⟨rfl, rfl, rfl, by decide +kernel, rfl, by decide +kernel, by decide +kernel⟩
theorem sc_are_rising_pairs : FnScope ["thing", "pair"] ["thing"] (defScope s_are_rising_pairs) := ⟨rfl, rfl, rfl, by decide +kernel, rfl, by decide +kernel, by decide +kernel⟩
theorem sc_is_page_number : FnScope ["thing"] ["thing"] (defScope s_is_page_number) := ⟨rfl, rfl, rfl, by decide +kernel, rfl, by decide +kernel, by decide +kernel⟩
theorem sc_is_leaf : FnScope ["thing"] ["thing"] (defScope s_is_leaf) := ⟨rfl, rfl, rfl, by decide +kernel, rfl, by decide +kernel, by decide +kernel⟩
theorem sc_is_node : FnScope ["thing", "keys", "kids", "key", "kid"] ["thing"] (defScope s_is_node) := ⟨rfl, rfl, rfl, by decide +kernel, rfl, by decide +kernel, by decide +kernel⟩
theorem sc_is_page : FnScope ["thing"] ["thing"] (defScope s_is_page) := ⟨rfl, rfl, rfl, by decide +kernel, rfl, by decide +kernel, by decide +kernel⟩
theorem sc_parts_of : FnScope ["page"] ["page"] (defScope s_parts_of) := ⟨rfl, rfl, rfl, by decide +kernel, rfl, by decide +kernel, by decide +kernel⟩
theorem sc_is_numbered_page : FnScope ["thing"] ["thing"] (defScope s_is_numbered_page) := ⟨rfl, rfl, rfl, by decide +kernel, rfl, by decide +kernel, by decide +kernel⟩
theorem sc_are_numbered_pages : FnScope ["thing", "one", "other", "part"] ["thing"] (defScope s_are_numbered_pages) := ⟨rfl, rfl, rfl, by decide +kernel, rfl, by decide +kernel, by decide +kernel⟩
theorem sc_levels_from : FnScope ["root", "pages", "seen", "levels", "level", "number", "nodes", "node", "kid"] ["root", "pages"] (defScope s_levels_from) := ⟨rfl, rfl, rfl, by decide +kernel, rfl, by decide +kernel, by decide +kernel⟩
theorem sc_sizes_fit : FnScope ["room", "root", "pages", "number", "page", "least"] ["room", "root", "pages"] (defScope s_sizes_fit) := ⟨rfl, rfl, rfl, by decide +kernel, rfl, by decide +kernel, by decide +kernel⟩
theorem sc_bounds_of : FnScope ["levels", "pages", "bounds", "level", "number", "low", "high", "_", "keys", "kids", "kid", "least", "above"] ["levels", "pages"] (defScope s_bounds_of) := ⟨rfl, rfl, rfl, by decide +kernel, rfl, by decide +kernel, by decide +kernel⟩
theorem sc_keys_fit : FnScope ["levels", "pages", "bounds", "number", "low", "high", "pair"] ["levels", "pages"] (defScope s_keys_fit) := ⟨rfl, rfl, rfl, by decide +kernel, rfl, by decide +kernel, by decide +kernel⟩
theorem sc_nexts_fit : FnScope ["leaves", "pages", "nexts", "number"] ["leaves", "pages"] (defScope s_nexts_fit) := ⟨rfl, rfl, rfl, by decide +kernel, rfl, by decide +kernel, by decide +kernel⟩
theorem sc_is_sound : FnScope ["thing", "room", "root", "numbered", "pages", "levels"] ["thing"] (defScope s_is_sound) := ⟨rfl, rfl, rfl, by decide +kernel, rfl, by decide +kernel, by decide +kernel⟩
theorem sc_need_room : FnScope ["thing"] ["thing"] (defScope s_need_room) := ⟨rfl, rfl, rfl, by decide +kernel, rfl, by decide +kernel, by decide +kernel⟩
theorem sc_need_key : FnScope ["thing"] ["thing"] (defScope s_need_key) := ⟨rfl, rfl, rfl, by decide +kernel, rfl, by decide +kernel, by decide +kernel⟩
theorem sc_need_tree : FnScope ["thing"] ["thing"] (defScope s_need_tree) := ⟨rfl, rfl, rfl, by decide +kernel, rfl, by decide +kernel, by decide +kernel⟩
theorem sc_empty : FnScope ["room"] ["room"] (defScope s_empty) := ⟨rfl, rfl, rfl, by decide +kernel, rfl, by decide +kernel, by decide +kernel⟩
theorem sc_shape_of : FnScope ["tree"] ["tree"] (defScope s_shape_of) := ⟨rfl, rfl, rfl, by decide +kernel, rfl, by decide +kernel, by decide +kernel⟩
theorem sc_shape_beneath : FnScope ["pages", "number", "kind", "_", "kids", "kid"] ["pages", "number"] (defScope s_shape_beneath) := ⟨rfl, rfl, rfl, by decide +kernel, rfl, by decide +kernel, by decide +kernel⟩
theorem sc_joined : FnScope ["left", "right", "key"] ["left", "right", "key"] (defScope s_joined) := ⟨rfl, rfl, rfl, by decide +kernel, rfl, by decide +kernel, by decide +kernel⟩
theorem sc_parted : FnScope ["page", "cut", "right", "_", "pairs", "behind", "keys", "kids"] ["page", "cut", "right"] (defScope s_parted) := ⟨rfl, rfl, rfl, by decide +kernel, rfl, by decide +kernel, by decide +kernel⟩
theorem sc_kid_place : FnScope ["keys", "key", "one"] ["keys", "key"] (defScope s_kid_place) := ⟨rfl, rfl, rfl, by decide +kernel, rfl, by decide +kernel, by decide +kernel⟩
theorem sc_value_in : FnScope ["pairs", "key", "one", "value"] ["pairs", "key"] (defScope s_value_in) := ⟨rfl, rfl, rfl, by decide +kernel, rfl, by decide +kernel, by decide +kernel⟩
theorem sc_mate_in : FnScope ["kids", "number", "at"] ["kids", "number"] (defScope s_mate_in) := ⟨rfl, rfl, rfl, by decide +kernel, rfl, by decide +kernel, by decide +kernel⟩
theorem sc_Book_init : FnScope ["self", "tree", "numbered"] ["self", "tree"] (defScope s_Book_init) := ⟨rfl, rfl, rfl, by decide +kernel, rfl, by decide +kernel, by decide +kernel⟩
theorem sc_Book_tree : FnScope ["self"] ["self"] (defScope s_Book_tree) := ⟨rfl, rfl, rfl, by decide +kernel, rfl, by decide +kernel, by decide +kernel⟩
theorem sc_Book_way : FnScope ["self", "key", "numbers", "page", "_", "keys", "kids"] ["self", "key"] (defScope s_Book_way) := ⟨rfl, rfl, rfl, by decide +kernel, rfl, by decide +kernel, by decide +kernel⟩
theorem sc_Book_many_parts : FnScope ["self", "number"] ["self", "number"] (defScope s_Book_many_parts) := ⟨rfl, rfl, rfl, by decide +kernel, rfl, by decide +kernel, by decide +kernel⟩
theorem sc_Book_has_key : FnScope ["self", "number", "key"] ["self", "number", "key"] (defScope s_Book_has_key) := ⟨rfl, rfl, rfl, by decide +kernel, rfl, by decide +kernel, by decide +kernel⟩
theorem sc_Book_free_number : FnScope ["self", "number"] ["self"] (defScope s_Book_free_number) := ⟨rfl, rfl, rfl, by decide +kernel, rfl, by decide +kernel, by decide +kernel⟩
theorem sc_drop : FnScope ["tree", "key", "book", "answer"] ["tree", "key"] (defScope s_drop) := ⟨rfl, rfl, rfl, by decide +kernel, rfl, by decide +kernel, by decide +kernel⟩
theorem sc_drop_in : FnScope ["book", "key", "way", "_", "pairs", "right", "left", "pair"] ["book", "key"] (defScope s_drop_in) := ⟨rfl, rfl, rfl, by decide +kernel, rfl, by decide +kernel, by decide +kernel⟩
theorem sc_fill_up : FnScope ["book", "way", "at", "page"] ["book", "way"] (defScope s_fill_up) := ⟨rfl, rfl, rfl, by decide +kernel, rfl, by decide +kernel, by decide +kernel⟩
theorem sc_mend : FnScope ["book", "elder", "number", "_", "keys", "kids", "mate", "at", "left", "right", "whole", "cut", "key"] ["book", "elder", "number"] (defScope s_mend) := ⟨rfl, rfl, rfl, by decide +kernel, rfl, by decide +kernel, by decide +kernel⟩
theorem sc_put_in : FnScope ["book", "key", "value", "way", "_", "pairs", "right", "ahead", "behind", "pair"] ["book", "key", "value"] (defScope s_put_in) := ⟨rfl, rfl, rfl, by decide +kernel, rfl, by decide +kernel, by decide +kernel⟩
theorem sc_part_up : FnScope ["book", "way", "at", "key", "new", "root"] ["book", "way"] (defScope s_part_up) := ⟨rfl, rfl, rfl, by decide +kernel, rfl, by decide +kernel, by decide +kernel⟩
theorem sc_part : FnScope ["book", "number", "page", "new", "cut", "left", "key", "right"] ["book", "number"] (defScope s_part) := ⟨rfl, rfl, rfl, by decide +kernel, rfl, by decide +kernel, by decide +kernel⟩
theorem sc_add_kid : FnScope ["book", "elder", "kid", "key", "new", "_", "keys", "kids", "at"] ["book", "elder", "kid", "key", "new"] (defScope s_add_kid) := ⟨rfl, rfl, rfl, by decide +kernel, rfl, by decide +kernel, by decide +kernel⟩
theorem sc_planted : FnScope ["pairs", "room", "book", "key", "value"] ["pairs", "room"] (defScope s_planted) := ⟨rfl, rfl, rfl, by decide +kernel, rfl, by decide +kernel, by decide +kernel⟩
theorem sc_law_pot : FnScope ["script", "k", "cell"] ["script", "k"] (defScope s_law_pot) := ⟨rfl, rfl, rfl, by decide +kernel, rfl, by decide +kernel, by decide +kernel⟩
theorem sc_law_take : FnScope ["pot", "many", "found", "one", "other"] ["pot", "many"] (defScope s_law_take) := ⟨rfl, rfl, rfl, by decide +kernel, rfl, by decide +kernel, by decide +kernel⟩
theorem sc_law_shape : FnScope ["pot", "space", "levels", "top", "wide", "least", "many", "k"] ["pot", "space", "levels", "top", "wide"] (defScope s_law_shape) := ⟨rfl, rfl, rfl, by decide +kernel, rfl, by decide +kernel, by decide +kernel⟩
theorem sc_law_many : FnScope ["shape", "kid"] ["shape"] (defScope s_law_many) := ⟨rfl, rfl, rfl, by decide +kernel, rfl, by decide +kernel, by decide +kernel⟩
theorem sc_law_pages : FnScope ["shape", "kid"] ["shape"] (defScope s_law_pages) := ⟨rfl, rfl, rfl, by decide +kernel, rfl, by decide +kernel, by decide +kernel⟩
theorem sc_law_pairs : FnScope ["pot", "many", "found", "key", "k"] ["pot", "many"] (defScope s_law_pairs) := ⟨rfl, rfl, rfl, by decide +kernel, rfl, by decide +kernel, by decide +kernel⟩
theorem sc_law_laid : FnScope ["pot", "shape", "rest", "pages", "number", "pairs", "kids", "keys", "kid", "pair"] ["pot", "shape", "rest", "pages"] (defScope s_law_laid) := ⟨rfl, rfl, rfl, by decide +kernel, rfl, by decide +kernel, by decide +kernel⟩
theorem sc_law_leaves : FnScope ["pages", "number", "found", "kid"] ["pages", "number"] (defScope s_law_leaves) := ⟨rfl, rfl, rfl, by decide +kernel, rfl, by decide +kernel, by decide +kernel⟩
theorem sc_law_tree : FnScope ["pot", "space", "levels", "wide", "shape", "many", "apart", "k", "left", "numbers", "pages", "root", "leaves", "number", "following"] ["pot", "space", "levels", "wide"] (defScope s_law_tree) := ⟨rfl, rfl, rfl, by decide +kernel, rfl, by decide +kernel, by decide +kernel⟩
theorem sc_law_pairs_of : FnScope ["tree", "pages", "found", "number"] ["tree"] (defScope s_law_pairs_of) := ⟨rfl, rfl, rfl, by decide +kernel, rfl, by decide +kernel, by decide +kernel⟩
theorem sc_law_same : FnScope ["found", "due", "one", "other"] ["found", "due"] (defScope s_law_same) := ⟨rfl, rfl, rfl, by decide +kernel, rfl, by decide +kernel, by decide +kernel⟩
theorem sc_law_walked : FnScope ["pages", "number", "word", "some", "others", "kid"] ["pages", "number"] (defScope s_law_walked) := ⟨rfl, rfl, rfl, by decide +kernel, rfl, by decide +kernel, by decide +kernel⟩
theorem sc_law_right : FnScope ["tree"] ["tree"] (defScope s_law_right) := ⟨rfl, rfl, rfl, by decide +kernel, rfl, by decide +kernel, by decide +kernel⟩
theorem sc_law_renamed : FnScope ["tree", "top", "pages", "number", "page", "word", "some", "others", "kid"] ["tree"] (defScope s_law_renamed) := ⟨rfl, rfl, rfl, by decide +kernel, rfl, by decide +kernel, by decide +kernel⟩
theorem sc_law : FnScope ["script", "k", "pot", "space", "levels", "tree", "shape", "pairs", "mixed", "other", "key", "value", "turn"] ["script"] (defScope s_law) := ⟨rfl, rfl, rfl, by decide +kernel, rfl, by decide +kernel, by decide +kernel⟩
/-- what the top has written -/
structure TX (K : PySem.W.Frag) (mg : Str → Option Value) where
  fd_is_whole : FuncData
  F_is_whole : FunD K "is_whole" "is_whole" (defArgs s_is_whole) (defBody s_is_whole) (defScope s_is_whole) [] [] (He.ga K "is_whole") fd_is_whole
  g_is_whole : mg "is_whole" = some (.ref (He.ga K "is_whole"))
  fd_is_between : FuncData
  F_is_between : FunD K "is_between" "is_between" (defArgs s_is_between) (defBody s_is_between) (defScope s_is_between) [] [] (He.ga K "is_between") fd_is_between
  g_is_between : mg "is_between" = some (.ref (He.ga K "is_between"))
  fd_is_row : FuncData
  F_is_row : FunD K "is_row" "is_row" (defArgs s_is_row) (defBody s_is_row) (defScope s_is_row) [] [] (He.ga K "is_row") fd_is_row
  g_is_row : mg "is_row" = some (.ref (He.ga K "is_row"))
  fd_is_key : FuncData
  F_is_key : FunD K "is_key" "is_key" (defArgs s_is_key) (defBody s_is_key) (defScope s_is_key) [] [] (He.ga K "is_key") fd_is_key
  g_is_key : mg "is_key" = some (.ref (He.ga K "is_key"))
  fd_is_value : FuncData
  F_is_value : FunD K "is_value" "is_value" (defArgs s_is_value) (defBody s_is_value) (defScope s_is_value) [] [] (He.ga K "is_value") fd_is_value
  g_is_value : mg "is_value" = some (.ref (He.ga K "is_value"))
  fd_is_room : FuncData
  F_is_room : FunD K "is_room" "is_room" (defArgs s_is_room) (defBody s_is_room) (defScope s_is_room) [] [] (He.ga K "is_room") fd_is_room
  g_is_room : mg "is_room" = some (.ref (He.ga K "is_room"))
  fd_half_of : FuncData
  F_half_of : FunD K "half_of" "half_of" (defArgs s_half_of) (defBody s_half_of) (defScope s_half_of) [] [] (He.ga K "half_of") fd_half_of
  g_half_of : mg "half_of" = some (.ref (He.ga K "half_of"))
  fd_is_pair : FuncData
  F_is_pair : FunD K "is_pair" "is_pair" (defArgs s_is_pair) (defBody s_is_pair) (defScope s_is_pair) [] [] (He.ga K "is_pair") fd_is_pair
  g_is_pair : mg "is_pair" = some (.ref (He.ga K "is_pair"))
  fd_are_pairs : FuncData
  F_are_pairs : FunD K "are_pairs" "are_pairs" (defArgs s_are_pairs) (defBody s_are_pairs) (defScope s_are_pairs) [] [] (He.ga K "are_pairs") fd_are_pairs
  g_are_pairs : mg "are_pairs" = some (.ref (He.ga K "are_pairs"))
  fd_are_rising : FuncData
  F_are_rising : FunD K "are_rising" "are_rising" (defArgs s_are_rising) (defBody s_are_rising) (defScope s_are_rising) [] [] (He.ga K "are_rising") fd_are_rising
  g_are_rising : mg "are_rising" = some (.ref (He.ga K "are_rising"))
  fd_are_rising_pairs : FuncData
  F_are_rising_pairs : FunD K "are_rising_pairs" "are_rising_pairs" (defArgs s_are_rising_pairs) (defBody s_are_rising_pairs) (defScope s_are_rising_pairs) [] [] (He.ga K "are_rising_pairs") fd_are_rising_pairs
  g_are_rising_pairs : mg "are_rising_pairs" = some (.ref (He.ga K "are_rising_pairs"))
  fd_is_page_number : FuncData
  F_is_page_number : FunD K "is_page_number" "is_page_number" (defArgs s_is_page_number) (defBody s_is_page_number) (defScope s_is_page_number) [] [] (He.ga K "is_page_number") fd_is_page_number
  g_is_page_number : mg "is_page_number" = some (.ref (He.ga K "is_page_number"))
  fd_is_leaf : FuncData
  F_is_leaf : FunD K "is_leaf" "is_leaf" (defArgs s_is_leaf) (defBody s_is_leaf) (defScope s_is_leaf) [] [] (He.ga K "is_leaf") fd_is_leaf
  g_is_leaf : mg "is_leaf" = some (.ref (He.ga K "is_leaf"))
  fd_is_node : FuncData
  F_is_node : FunD K "is_node" "is_node" (defArgs s_is_node) (defBody s_is_node) (defScope s_is_node) [] [] (He.ga K "is_node") fd_is_node
  g_is_node : mg "is_node" = some (.ref (He.ga K "is_node"))
  fd_is_page : FuncData
  F_is_page : FunD K "is_page" "is_page" (defArgs s_is_page) (defBody s_is_page) (defScope s_is_page) [] [] (He.ga K "is_page") fd_is_page
  g_is_page : mg "is_page" = some (.ref (He.ga K "is_page"))
  fd_parts_of : FuncData
  F_parts_of : FunD K "parts_of" "parts_of" (defArgs s_parts_of) (defBody s_parts_of) (defScope s_parts_of) [] [] (He.ga K "parts_of") fd_parts_of
  g_parts_of : mg "parts_of" = some (.ref (He.ga K "parts_of"))
  fd_is_numbered_page : FuncData
  F_is_numbered_page : FunD K "is_numbered_page" "is_numbered_page" (defArgs s_is_numbered_page) (defBody s_is_numbered_page) (defScope s_is_numbered_page) [] [] (He.ga K "is_numbered_page") fd_is_numbered_page
  g_is_numbered_page : mg "is_numbered_page" = some (.ref (He.ga K "is_numbered_page"))
  fd_are_numbered_pages : FuncData
  F_are_numbered_pages : FunD K "are_numbered_pages" "are_numbered_pages" (defArgs s_are_numbered_pages) (defBody s_are_numbered_pages) (defScope s_are_numbered_pages) [] [] (He.ga K "are_numbered_pages") fd_are_numbered_pages
  g_are_numbered_pages : mg "are_numbered_pages" = some (.ref (He.ga K "are_numbered_pages"))
  fd_levels_from : FuncData
  F_levels_from : FunD K "levels_from" "levels_from" (defArgs s_levels_from) (defBody s_levels_from) (defScope s_levels_from) [] [] (He.ga K "levels_from") fd_levels_from
  g_levels_from : mg "levels_from" = some (.ref (He.ga K "levels_from"))
  fd_sizes_fit : FuncData
  F_sizes_fit : FunD K "sizes_fit" "sizes_fit" (defArgs s_sizes_fit) (defBody s_sizes_fit) (defScope s_sizes_fit) [] [] (He.ga K "sizes_fit") fd_sizes_fit
  g_sizes_fit : mg "sizes_fit" = some (.ref (He.ga K "sizes_fit"))
  fd_bounds_of : FuncData
  F_bounds_of : FunD K "bounds_of" "bounds_of" (defArgs s_bounds_of) (defBody s_bounds_of) (defScope s_bounds_of) [] [] (He.ga K "bounds_of") fd_bounds_of
  g_bounds_of : mg "bounds_of" = some (.ref (He.ga K "bounds_of"))
  fd_keys_fit : FuncData
  F_keys_fit : FunD K "keys_fit" "keys_fit" (defArgs s_keys_fit) (defBody s_keys_fit) (defScope s_keys_fit) [] [] (He.ga K "keys_fit") fd_keys_fit
  g_keys_fit : mg "keys_fit" = some (.ref (He.ga K "keys_fit"))
  fd_nexts_fit : FuncData
  F_nexts_fit : FunD K "nexts_fit" "nexts_fit" (defArgs s_nexts_fit) (defBody s_nexts_fit) (defScope s_nexts_fit) [] [] (He.ga K "nexts_fit") fd_nexts_fit
  g_nexts_fit : mg "nexts_fit" = some (.ref (He.ga K "nexts_fit"))
  fd_is_sound : FuncData
  F_is_sound : FunD K "is_sound" "is_sound" (defArgs s_is_sound) (defBody s_is_sound) (defScope s_is_sound) [] [] (He.ga K "is_sound") fd_is_sound
  g_is_sound : mg "is_sound" = some (.ref (He.ga K "is_sound"))
  fd_need_room : FuncData
  F_need_room : FunD K "need_room" "need_room" (defArgs s_need_room) (defBody s_need_room) (defScope s_need_room) [] [] (He.ga K "need_room") fd_need_room
  g_need_room : mg "need_room" = some (.ref (He.ga K "need_room"))
  fd_need_key : FuncData
  F_need_key : FunD K "need_key" "need_key" (defArgs s_need_key) (defBody s_need_key) (defScope s_need_key) [] [] (He.ga K "need_key") fd_need_key
  g_need_key : mg "need_key" = some (.ref (He.ga K "need_key"))
  fd_need_tree : FuncData
  F_need_tree : FunD K "need_tree" "need_tree" (defArgs s_need_tree) (defBody s_need_tree) (defScope s_need_tree) [] [] (He.ga K "need_tree") fd_need_tree
  g_need_tree : mg "need_tree" = some (.ref (He.ga K "need_tree"))
  fd_empty : FuncData
  F_empty : FunD K "empty" "empty" (defArgs s_empty) (defBody s_empty) (defScope s_empty) [] [("room", (V.int 4))] (He.ga K "empty") fd_empty
  g_empty : mg "empty" = some (.ref (He.ga K "empty"))
  fd_shape_of : FuncData
  F_shape_of : FunD K "shape_of" "shape_of" (defArgs s_shape_of) (defBody s_shape_of) (defScope s_shape_of) [] [] (He.ga K "shape_of") fd_shape_of
  g_shape_of : mg "shape_of" = some (.ref (He.ga K "shape_of"))
  fd_shape_beneath : FuncData
  F_shape_beneath : FunD K "shape_beneath" "shape_beneath" (defArgs s_shape_beneath) (defBody s_shape_beneath) (defScope s_shape_beneath) [] [] (He.ga K "shape_beneath") fd_shape_beneath
  g_shape_beneath : mg "shape_beneath" = some (.ref (He.ga K "shape_beneath"))
  fd_joined : FuncData
  F_joined : FunD K "joined" "joined" (defArgs s_joined) (defBody s_joined) (defScope s_joined) [] [] (He.ga K "joined") fd_joined
  g_joined : mg "joined" = some (.ref (He.ga K "joined"))
  fd_parted : FuncData
  F_parted : FunD K "parted" "parted" (defArgs s_parted) (defBody s_parted) (defScope s_parted) [] [] (He.ga K "parted") fd_parted
  g_parted : mg "parted" = some (.ref (He.ga K "parted"))
  fd_kid_place : FuncData
  F_kid_place : FunD K "kid_place" "kid_place" (defArgs s_kid_place) (defBody s_kid_place) (defScope s_kid_place) [] [] (He.ga K "kid_place") fd_kid_place
  g_kid_place : mg "kid_place" = some (.ref (He.ga K "kid_place"))
  fd_value_in : FuncData
  F_value_in : FunD K "value_in" "value_in" (defArgs s_value_in) (defBody s_value_in) (defScope s_value_in) [] [] (He.ga K "value_in") fd_value_in
  g_value_in : mg "value_in" = some (.ref (He.ga K "value_in"))
  fd_mate_in : FuncData
  F_mate_in : FunD K "mate_in" "mate_in" (defArgs s_mate_in) (defBody s_mate_in) (defScope s_mate_in) [] [] (He.ga K "mate_in") fd_mate_in
  g_mate_in : mg "mate_in" = some (.ref (He.ga K "mate_in"))
  fd_Book_init : FuncData
  F_Book_init : FunD K "__init__" "Book.__init__" (defArgs s_Book_init) (defBody s_Book_init) (defScope s_Book_init) [] [] (He.ma K (He.ga K "Book") "__init__") fd_Book_init
  fd_Book_tree : FuncData
  F_Book_tree : FunD K "tree" "Book.tree" (defArgs s_Book_tree) (defBody s_Book_tree) (defScope s_Book_tree) [] [] (He.ma K (He.ga K "Book") "tree") fd_Book_tree
  m_Book_tree : Meth K (He.ga K "Book") "tree" (He.ma K (He.ga K "Book") "tree")
  fd_Book_way : FuncData
  F_Book_way : FunD K "way" "Book.way" (defArgs s_Book_way) (defBody s_Book_way) (defScope s_Book_way) [] [] (He.ma K (He.ga K "Book") "way") fd_Book_way
  m_Book_way : Meth K (He.ga K "Book") "way" (He.ma K (He.ga K "Book") "way")
  fd_Book_many_parts : FuncData
  F_Book_many_parts : FunD K "many_parts" "Book.many_parts" (defArgs s_Book_many_parts) (defBody s_Book_many_parts) (defScope s_Book_many_parts) [] [] (He.ma K (He.ga K "Book") "many_parts") fd_Book_many_parts
  m_Book_many_parts : Meth K (He.ga K "Book") "many_parts" (He.ma K (He.ga K "Book") "many_parts")
  fd_Book_has_key : FuncData
  F_Book_has_key : FunD K "has_key" "Book.has_key" (defArgs s_Book_has_key) (defBody s_Book_has_key) (defScope s_Book_has_key) [] [] (He.ma K (He.ga K "Book") "has_key") fd_Book_has_key
  m_Book_has_key : Meth K (He.ga K "Book") "has_key" (He.ma K (He.ga K "Book") "has_key")
  fd_Book_free_number : FuncData
  F_Book_free_number : FunD K "free_number" "Book.free_number" (defArgs s_Book_free_number) (defBody s_Book_free_number) (defScope s_Book_free_number) [] [] (He.ma K (He.ga K "Book") "free_number") fd_Book_free_number
  m_Book_free_number : Meth K (He.ga K "Book") "free_number" (He.ma K (He.ga K "Book") "free_number")
  fd_drop : FuncData
  F_drop : FunD K "drop" "drop" (defArgs s_drop) (defBody s_drop) (defScope s_drop) [] [] (He.ga K "drop") fd_drop
  g_drop : mg "drop" = some (.ref (He.ga K "drop"))
  fd_drop_in : FuncData
  F_drop_in : FunD K "drop_in" "drop_in" (defArgs s_drop_in) (defBody s_drop_in) (defScope s_drop_in) [] [] (He.ga K "drop_in") fd_drop_in
  g_drop_in : mg "drop_in" = some (.ref (He.ga K "drop_in"))
  fd_fill_up : FuncData
  F_fill_up : FunD K "fill_up" "fill_up" (defArgs s_fill_up) (defBody s_fill_up) (defScope s_fill_up) [] [] (He.ga K "fill_up") fd_fill_up
  g_fill_up : mg "fill_up" = some (.ref (He.ga K "fill_up"))
  fd_mend : FuncData
  F_mend : FunD K "mend" "mend" (defArgs s_mend) (defBody s_mend) (defScope s_mend) [] [] (He.ga K "mend") fd_mend
  g_mend : mg "mend" = some (.ref (He.ga K "mend"))
  fd_put_in : FuncData
  F_put_in : FunD K "put_in" "put_in" (defArgs s_put_in) (defBody s_put_in) (defScope s_put_in) [] [] (He.ga K "put_in") fd_put_in
  g_put_in : mg "put_in" = some (.ref (He.ga K "put_in"))
  fd_part_up : FuncData
  F_part_up : FunD K "part_up" "part_up" (defArgs s_part_up) (defBody s_part_up) (defScope s_part_up) [] [] (He.ga K "part_up") fd_part_up
  g_part_up : mg "part_up" = some (.ref (He.ga K "part_up"))
  fd_part : FuncData
  F_part : FunD K "part" "part" (defArgs s_part) (defBody s_part) (defScope s_part) [] [] (He.ga K "part") fd_part
  g_part : mg "part" = some (.ref (He.ga K "part"))
  fd_add_kid : FuncData
  F_add_kid : FunD K "add_kid" "add_kid" (defArgs s_add_kid) (defBody s_add_kid) (defScope s_add_kid) [] [] (He.ga K "add_kid") fd_add_kid
  g_add_kid : mg "add_kid" = some (.ref (He.ga K "add_kid"))
  fd_planted : FuncData
  F_planted : FunD K "planted" "planted" (defArgs s_planted) (defBody s_planted) (defScope s_planted) [] [("room", (V.int 4))] (He.ga K "planted") fd_planted
  g_planted : mg "planted" = some (.ref (He.ga K "planted"))
  fd_law_pot : FuncData
  F_law_pot : FunD K "_law_pot" "_law_pot" (defArgs s_law_pot) (defBody s_law_pot) (defScope s_law_pot) [] [] (He.ga K "_law_pot") fd_law_pot
  g_law_pot : mg "_law_pot" = some (.ref (He.ga K "_law_pot"))
  fd_law_take : FuncData
  F_law_take : FunD K "_law_take" "_law_take" (defArgs s_law_take) (defBody s_law_take) (defScope s_law_take) [] [] (He.ga K "_law_take") fd_law_take
  g_law_take : mg "_law_take" = some (.ref (He.ga K "_law_take"))
  fd_law_shape : FuncData
  F_law_shape : FunD K "_law_shape" "_law_shape" (defArgs s_law_shape) (defBody s_law_shape) (defScope s_law_shape) [] [] (He.ga K "_law_shape") fd_law_shape
  g_law_shape : mg "_law_shape" = some (.ref (He.ga K "_law_shape"))
  fd_law_many : FuncData
  F_law_many : FunD K "_law_many" "_law_many" (defArgs s_law_many) (defBody s_law_many) (defScope s_law_many) [] [] (He.ga K "_law_many") fd_law_many
  g_law_many : mg "_law_many" = some (.ref (He.ga K "_law_many"))
  fd_law_pages : FuncData
  F_law_pages : FunD K "_law_pages" "_law_pages" (defArgs s_law_pages) (defBody s_law_pages) (defScope s_law_pages) [] [] (He.ga K "_law_pages") fd_law_pages
  g_law_pages : mg "_law_pages" = some (.ref (He.ga K "_law_pages"))
  fd_law_pairs : FuncData
  F_law_pairs : FunD K "_law_pairs" "_law_pairs" (defArgs s_law_pairs) (defBody s_law_pairs) (defScope s_law_pairs) [] [] (He.ga K "_law_pairs") fd_law_pairs
  g_law_pairs : mg "_law_pairs" = some (.ref (He.ga K "_law_pairs"))
  fd_law_laid : FuncData
  F_law_laid : FunD K "_law_laid" "_law_laid" (defArgs s_law_laid) (defBody s_law_laid) (defScope s_law_laid) [] [] (He.ga K "_law_laid") fd_law_laid
  g_law_laid : mg "_law_laid" = some (.ref (He.ga K "_law_laid"))
  fd_law_leaves : FuncData
  F_law_leaves : FunD K "_law_leaves" "_law_leaves" (defArgs s_law_leaves) (defBody s_law_leaves) (defScope s_law_leaves) [] [] (He.ga K "_law_leaves") fd_law_leaves
  g_law_leaves : mg "_law_leaves" = some (.ref (He.ga K "_law_leaves"))
  fd_law_tree : FuncData
  F_law_tree : FunD K "_law_tree" "_law_tree" (defArgs s_law_tree) (defBody s_law_tree) (defScope s_law_tree) [] [] (He.ga K "_law_tree") fd_law_tree
  g_law_tree : mg "_law_tree" = some (.ref (He.ga K "_law_tree"))
  fd_law_pairs_of : FuncData
  F_law_pairs_of : FunD K "_law_pairs_of" "_law_pairs_of" (defArgs s_law_pairs_of) (defBody s_law_pairs_of) (defScope s_law_pairs_of) [] [] (He.ga K "_law_pairs_of") fd_law_pairs_of
  g_law_pairs_of : mg "_law_pairs_of" = some (.ref (He.ga K "_law_pairs_of"))
  fd_law_same : FuncData
  F_law_same : FunD K "_law_same" "_law_same" (defArgs s_law_same) (defBody s_law_same) (defScope s_law_same) [] [] (He.ga K "_law_same") fd_law_same
  g_law_same : mg "_law_same" = some (.ref (He.ga K "_law_same"))
  fd_law_walked : FuncData
  F_law_walked : FunD K "_law_walked" "_law_walked" (defArgs s_law_walked) (defBody s_law_walked) (defScope s_law_walked) [] [] (He.ga K "_law_walked") fd_law_walked
  g_law_walked : mg "_law_walked" = some (.ref (He.ga K "_law_walked"))
  fd_law_right : FuncData
  F_law_right : FunD K "_law_right" "_law_right" (defArgs s_law_right) (defBody s_law_right) (defScope s_law_right) [] [] (He.ga K "_law_right") fd_law_right
  g_law_right : mg "_law_right" = some (.ref (He.ga K "_law_right"))
  fd_law_renamed : FuncData
  F_law_renamed : FunD K "_law_renamed" "_law_renamed" (defArgs s_law_renamed) (defBody s_law_renamed) (defScope s_law_renamed) [] [] (He.ga K "_law_renamed") fd_law_renamed
  g_law_renamed : mg "_law_renamed" = some (.ref (He.ga K "_law_renamed"))
  fd_law : FuncData
  F_law : FunD K "law" "law" (defArgs s_law) (defBody s_law) (defScope s_law) [] [] (He.ga K "law") fd_law
  g_law : mg "law" = some (.ref (He.ga K "law"))
  g_GroveError : mg "GroveError" = some (.ref (He.ga K "GroveError"))
  g_NoRoom : mg "NoRoom" = some (.ref (He.ga K "NoRoom"))
  g_NoKey : mg "NoKey" = some (.ref (He.ga K "NoKey"))
  g_NoTree : mg "NoTree" = some (.ref (He.ga K "NoTree"))
  g_NoPairs : mg "NoPairs" = some (.ref (He.ga K "NoPairs"))
  g_Book : mg "Book" = some (.ref (He.ga K "Book"))
  cl_Book : Cls K (He.ga K "Book")
  mk_Book : Mk K (He.ga K "Book") (He.ma K (He.ga K "Book") "__init__")
  na_Book_room : NoAttr K (He.ga K "Book") "room"
  na_Book_root : NoAttr K (He.ga K "Book") "root"
  na_Book_half : NoAttr K (He.ga K "Book") "half"
  na_Book_pages : NoAttr K (He.ga K "Book") "pages"
  g_GREATEST : ∃ t, mg "GREATEST" = some (.int 1000000000 t)
  g_LAST_PAGE : ∃ t, mg "LAST_PAGE" = some (.int 1000000 t)
  g_LEAST_ROOM : ∃ t, mg "LEAST_ROOM" = some (.int 3 t)
  g_GREATEST_ROOM : ∃ t, mg "GREATEST_ROOM" = some (.int 8 t)
  g_ROOM : ∃ t, mg "ROOM" = some (.int 4 t)
  n_abs : mg "abs" = none
  n_all : mg "all" = none
  n_bool : mg "bool" = none
  n_dict : mg "dict" = none
  n_int : mg "int" = none
  n_isinstance : mg "isinstance" = none
  n_len : mg "len" = none
  n_list : mg "list" = none
  n_max : mg "max" = none
  n_min : mg "min" = none
  n_range : mg "range" = none
  n_sorted : mg "sorted" = none
  n_str : mg "str" = none
  n_sum : mg "sum" = none
  n_tuple : mg "tuple" = none
  n_zip : mg "zip" = none
theorem b_is_whole {K : PySem.W.Frag} {mg : Str → Option Value} (T : TX K mg) : Binds K T.fd_is_whole ["thing"] [] := T.F_is_whole.bindsN fun _ _ _ _ _ _ us hl => match us, hl with | [_], _ => rfl
theorem b_is_between {K : PySem.W.Frag} {mg : Str → Option Value} (T : TX K mg) : Binds K T.fd_is_between ["thing", "low", "high"] [] := T.F_is_between.bindsN fun _ _ _ _ _ _ us hl => match us, hl with | [_, _, _], _ => rfl
theorem b_is_row {K : PySem.W.Frag} {mg : Str → Option Value} (T : TX K mg) : Binds K T.fd_is_row ["thing", "many"] [] := T.F_is_row.bindsN fun _ _ _ _ _ _ us hl => match us, hl with | [_, _], _ => rfl
theorem b_is_key {K : PySem.W.Frag} {mg : Str → Option Value} (T : TX K mg) : Binds K T.fd_is_key ["thing"] [] := T.F_is_key.bindsN fun _ _ _ _ _ _ us hl => match us, hl with | [_], _ => rfl
theorem b_is_value {K : PySem.W.Frag} {mg : Str → Option Value} (T : TX K mg) : Binds K T.fd_is_value ["thing"] [] := T.F_is_value.bindsN fun _ _ _ _ _ _ us hl => match us, hl with | [_], _ => rfl
theorem b_is_room {K : PySem.W.Frag} {mg : Str → Option Value} (T : TX K mg) : Binds K T.fd_is_room ["thing"] [] := T.F_is_room.bindsN fun _ _ _ _ _ _ us hl => match us, hl with | [_], _ => rfl
theorem b_half_of {K : PySem.W.Frag} {mg : Str → Option Value} (T : TX K mg) : Binds K T.fd_half_of ["room"] [] := T.F_half_of.bindsN fun _ _ _ _ _ _ us hl => match us, hl with | [_], _ => rfl
theorem b_is_pair {K : PySem.W.Frag} {mg : Str → Option Value} (T : TX K mg) : Binds K T.fd_is_pair ["thing"] [] := T.F_is_pair.bindsN fun _ _ _ _ _ _ us hl => match us, hl with | [_], _ => rfl
theorem b_are_pairs {K : PySem.W.Frag} {mg : Str → Option Value} (T : TX K mg) : Binds K T.fd_are_pairs ["thing"] [] := T.F_are_pairs.bindsN fun _ _ _ _ _ _ us hl => match us, hl with | [_], _ => rfl
theorem b_are_rising {K : PySem.W.Frag} {mg : Str → Option Value} (T : TX K mg) : Binds K T.fd_are_rising ["things"] [] := T.F_are_rising.bindsN fun _ _ _ _ _ _ us hl => match us, hl with | [_], _ => rfl
theorem b_are_rising_pairs {K : PySem.W.Frag} {mg : Str → Option Value} (T : TX K mg) : Binds K T.fd_are_rising_pairs ["thing"] [] := T.F_are_rising_pairs.bindsN fun _ _ _ _ _ _ us hl => match us, hl with | [_], _ => rfl
theorem b_is_page_number {K : PySem.W.Frag} {mg : Str → Option Value} (T : TX K mg) : Binds K T.fd_is_page_number ["thing"] [] := T.F_is_page_number.bindsN fun _ _ _ _ _ _ us hl => match us, hl with | [_], _ => rfl
theorem b_is_leaf {K : PySem.W.Frag} {mg : Str → Option Value} (T : TX K mg) : Binds K T.fd_is_leaf ["thing"] [] := T.F_is_leaf.bindsN fun _ _ _ _ _ _ us hl => match us, hl with | [_], _ => rfl
theorem b_is_node {K : PySem.W.Frag} {mg : Str → Option Value} (T : TX K mg) : Binds K T.fd_is_node ["thing"] [] := T.F_is_node.bindsN fun _ _ _ _ _ _ us hl => match us, hl with | [_], _ => rfl
theorem b_is_page {K : PySem.W.Frag} {mg : Str → Option Value} (T : TX K mg) : Binds K T.fd_is_page ["thing"] [] := T.F_is_page.bindsN fun _ _ _ _ _ _ us hl => match us, hl with | [_], _ => rfl
theorem b_parts_of {K : PySem.W.Frag} {mg : Str → Option Value} (T : TX K mg) : Binds K T.fd_parts_of ["page"] [] := T.F_parts_of.bindsN fun _ _ _ _ _ _ us hl => match us, hl with | [_], _ => rfl
theorem b_is_numbered_page {K : PySem.W.Frag} {mg : Str → Option Value} (T : TX K mg) : Binds K T.fd_is_numbered_page ["thing"] [] := T.F_is_numbered_page.bindsN fun _ _ _ _ _ _ us hl => match us, hl with | [_], _ => rfl
theorem b_are_numbered_pages {K : PySem.W.Frag} {mg : Str → Option Value} (T : TX K mg) : Binds K T.fd_are_numbered_pages ["thing"] [] := T.F_are_numbered_pages.bindsN fun _ _ _ _ _ _ us hl => match us, hl with | [_], _ => rfl
theorem b_levels_from {K : PySem.W.Frag} {mg : Str → Option Value} (T : TX K mg) : Binds K T.fd_levels_from ["root", "pages"] [] := T.F_levels_from.bindsN fun _ _ _ _ _ _ us hl => match us, hl with | [_, _], _ => rfl
theorem b_sizes_fit {K : PySem.W.Frag} {mg : Str → Option Value} (T : TX K mg) : Binds K T.fd_sizes_fit ["room", "root", "pages"] [] := T.F_sizes_fit.bindsN fun _ _ _ _ _ _ us hl => match us, hl with | [_, _, _], _ => rfl
theorem b_bounds_of {K : PySem.W.Frag} {mg : Str → Option Value} (T : TX K mg) : Binds K T.fd_bounds_of ["levels", "pages"] [] := T.F_bounds_of.bindsN fun _ _ _ _ _ _ us hl => match us, hl with | [_, _], _ => rfl
theorem b_keys_fit {K : PySem.W.Frag} {mg : Str → Option Value} (T : TX K mg) : Binds K T.fd_keys_fit ["levels", "pages"] [] := T.F_keys_fit.bindsN fun _ _ _ _ _ _ us hl => match us, hl with | [_, _], _ => rfl
theorem b_nexts_fit {K : PySem.W.Frag} {mg : Str → Option Value} (T : TX K mg) : Binds K T.fd_nexts_fit ["leaves", "pages"] [] := T.F_nexts_fit.bindsN fun _ _ _ _ _ _ us hl => match us, hl with | [_, _], _ => rfl
theorem b_is_sound {K : PySem.W.Frag} {mg : Str → Option Value} (T : TX K mg) : Binds K T.fd_is_sound ["thing"] [] := T.F_is_sound.bindsN fun _ _ _ _ _ _ us hl => match us, hl with | [_], _ => rfl
theorem b_need_room {K : PySem.W.Frag} {mg : Str → Option Value} (T : TX K mg) : Binds K T.fd_need_room ["thing"] [] := T.F_need_room.bindsN fun _ _ _ _ _ _ us hl => match us, hl with | [_], _ => rfl
theorem b_need_key {K : PySem.W.Frag} {mg : Str → Option Value} (T : TX K mg) : Binds K T.fd_need_key ["thing"] [] := T.F_need_key.bindsN fun _ _ _ _ _ _ us hl => match us, hl with | [_], _ => rfl
theorem b_need_tree {K : PySem.W.Frag} {mg : Str → Option Value} (T : TX K mg) : Binds K T.fd_need_tree ["thing"] [] := T.F_need_tree.bindsN fun _ _ _ _ _ _ us hl => match us, hl with | [_], _ => rfl
theorem b_shape_of {K : PySem.W.Frag} {mg : Str → Option Value} (T : TX K mg) : Binds K T.fd_shape_of ["tree"] [] := T.F_shape_of.bindsN fun _ _ _ _ _ _ us hl => match us, hl with | [_], _ => rfl
theorem b_shape_beneath {K : PySem.W.Frag} {mg : Str → Option Value} (T : TX K mg) : Binds K T.fd_shape_beneath ["pages", "number"] [] := T.F_shape_beneath.bindsN fun _ _ _ _ _ _ us hl => match us, hl with | [_, _], _ => rfl
theorem b_joined {K : PySem.W.Frag} {mg : Str → Option Value} (T : TX K mg) : Binds K T.fd_joined ["left", "right", "key"] [] := T.F_joined.bindsN fun _ _ _ _ _ _ us hl => match us, hl with | [_, _, _], _ => rfl
theorem b_parted {K : PySem.W.Frag} {mg : Str → Option Value} (T : TX K mg) : Binds K T.fd_parted ["page", "cut", "right"] [] := T.F_parted.bindsN fun _ _ _ _ _ _ us hl => match us, hl with | [_, _, _], _ => rfl
theorem b_kid_place {K : PySem.W.Frag} {mg : Str → Option Value} (T : TX K mg) : Binds K T.fd_kid_place ["keys", "key"] [] := T.F_kid_place.bindsN fun _ _ _ _ _ _ us hl => match us, hl with | [_, _], _ => rfl
theorem b_value_in {K : PySem.W.Frag} {mg : Str → Option Value} (T : TX K mg) : Binds K T.fd_value_in ["pairs", "key"] [] := T.F_value_in.bindsN fun _ _ _ _ _ _ us hl => match us, hl with | [_, _], _ => rfl
theorem b_mate_in {K : PySem.W.Frag} {mg : Str → Option Value} (T : TX K mg) : Binds K T.fd_mate_in ["kids", "number"] [] := T.F_mate_in.bindsN fun _ _ _ _ _ _ us hl => match us, hl with | [_, _], _ => rfl
theorem b_Book_init {K : PySem.W.Frag} {mg : Str → Option Value} (T : TX K mg) : Binds K T.fd_Book_init ["self", "tree"] [] := T.F_Book_init.bindsN fun _ _ _ _ _ _ us hl => match us, hl with | [_, _], _ => rfl
theorem b_Book_tree {K : PySem.W.Frag} {mg : Str → Option Value} (T : TX K mg) : Binds K T.fd_Book_tree ["self"] [] := T.F_Book_tree.bindsN fun _ _ _ _ _ _ us hl => match us, hl with | [_], _ => rfl
theorem b_Book_way {K : PySem.W.Frag} {mg : Str → Option Value} (T : TX K mg) : Binds K T.fd_Book_way ["self", "key"] [] := T.F_Book_way.bindsN fun _ _ _ _ _ _ us hl => match us, hl with | [_, _], _ => rfl
theorem b_Book_many_parts {K : PySem.W.Frag} {mg : Str → Option Value} (T : TX K mg) : Binds K T.fd_Book_many_parts ["self", "number"] [] := T.F_Book_many_parts.bindsN fun _ _ _ _ _ _ us hl => match us, hl with | [_, _], _ => rfl
theorem b_Book_has_key {K : PySem.W.Frag} {mg : Str → Option Value} (T : TX K mg) : Binds K T.fd_Book_has_key ["self", "number", "key"] [] := T.F_Book_has_key.bindsN fun _ _ _ _ _ _ us hl => match us, hl with | [_, _, _], _ => rfl
theorem b_Book_free_number {K : PySem.W.Frag} {mg : Str → Option Value} (T : TX K mg) : Binds K T.fd_Book_free_number ["self"] [] := T.F_Book_free_number.bindsN fun _ _ _ _ _ _ us hl => match us, hl with | [_], _ => rfl
theorem b_drop {K : PySem.W.Frag} {mg : Str → Option Value} (T : TX K mg) : Binds K T.fd_drop ["tree", "key"] [] := T.F_drop.bindsN fun _ _ _ _ _ _ us hl => match us, hl with | [_, _], _ => rfl
theorem b_drop_in {K : PySem.W.Frag} {mg : Str → Option Value} (T : TX K mg) : Binds K T.fd_drop_in ["book", "key"] [] := T.F_drop_in.bindsN fun _ _ _ _ _ _ us hl => match us, hl with | [_, _], _ => rfl
theorem b_fill_up {K : PySem.W.Frag} {mg : Str → Option Value} (T : TX K mg) : Binds K T.fd_fill_up ["book", "way"] [] := T.F_fill_up.bindsN fun _ _ _ _ _ _ us hl => match us, hl with | [_, _], _ => rfl
theorem b_mend {K : PySem.W.Frag} {mg : Str → Option Value} (T : TX K mg) : Binds K T.fd_mend ["book", "elder", "number"] [] := T.F_mend.bindsN fun _ _ _ _ _ _ us hl => match us, hl with | [_, _, _], _ => rfl
theorem b_put_in {K : PySem.W.Frag} {mg : Str → Option Value} (T : TX K mg) : Binds K T.fd_put_in ["book", "key", "value"] [] := T.F_put_in.bindsN fun _ _ _ _ _ _ us hl => match us, hl with | [_, _, _], _ => rfl
theorem b_part_up {K : PySem.W.Frag} {mg : Str → Option Value} (T : TX K mg) : Binds K T.fd_part_up ["book", "way"] [] := T.F_part_up.bindsN fun _ _ _ _ _ _ us hl => match us, hl with | [_, _], _ => rfl
theorem b_part {K : PySem.W.Frag} {mg : Str → Option Value} (T : TX K mg) : Binds K T.fd_part ["book", "number"] [] := T.F_part.bindsN fun _ _ _ _ _ _ us hl => match us, hl with | [_, _], _ => rfl
theorem b_add_kid {K : PySem.W.Frag} {mg : Str → Option Value} (T : TX K mg) : Binds K T.fd_add_kid ["book", "elder", "kid", "key", "new"] [] := T.F_add_kid.bindsN fun _ _ _ _ _ _ us hl => match us, hl with | [_, _, _, _, _], _ => rfl
theorem b_law_pot {K : PySem.W.Frag} {mg : Str → Option Value} (T : TX K mg) : Binds K T.fd_law_pot ["script", "k"] [] := T.F_law_pot.bindsN fun _ _ _ _ _ _ us hl => match us, hl with | [_, _], _ => rfl
theorem b_law_take {K : PySem.W.Frag} {mg : Str → Option Value} (T : TX K mg) : Binds K T.fd_law_take ["pot", "many"] [] := T.F_law_take.bindsN fun _ _ _ _ _ _ us hl => match us, hl with | [_, _], _ => rfl
theorem b_law_shape {K : PySem.W.Frag} {mg : Str → Option Value} (T : TX K mg) : Binds K T.fd_law_shape ["pot", "space", "levels", "top", "wide"] [] := T.F_law_shape.bindsN fun _ _ _ _ _ _ us hl => match us, hl with | [_, _, _, _, _], _ => rfl
theorem b_law_many {K : PySem.W.Frag} {mg : Str → Option Value} (T : TX K mg) : Binds K T.fd_law_many ["shape"] [] := T.F_law_many.bindsN fun _ _ _ _ _ _ us hl => match us, hl with | [_], _ => rfl
theorem b_law_pages {K : PySem.W.Frag} {mg : Str → Option Value} (T : TX K mg) : Binds K T.fd_law_pages ["shape"] [] := T.F_law_pages.bindsN fun _ _ _ _ _ _ us hl => match us, hl with | [_], _ => rfl
theorem b_law_pairs {K : PySem.W.Frag} {mg : Str → Option Value} (T : TX K mg) : Binds K T.fd_law_pairs ["pot", "many"] [] := T.F_law_pairs.bindsN fun _ _ _ _ _ _ us hl => match us, hl with | [_, _], _ => rfl
theorem b_law_laid {K : PySem.W.Frag} {mg : Str → Option Value} (T : TX K mg) : Binds K T.fd_law_laid ["pot", "shape", "rest", "pages"] [] := T.F_law_laid.bindsN fun _ _ _ _ _ _ us hl => match us, hl with | [_, _, _, _], _ => rfl
theorem b_law_leaves {K : PySem.W.Frag} {mg : Str → Option Value} (T : TX K mg) : Binds K T.fd_law_leaves ["pages", "number"] [] := T.F_law_leaves.bindsN fun _ _ _ _ _ _ us hl => match us, hl with | [_, _], _ => rfl
theorem b_law_tree {K : PySem.W.Frag} {mg : Str → Option Value} (T : TX K mg) : Binds K T.fd_law_tree ["pot", "space", "levels", "wide"] [] := T.F_law_tree.bindsN fun _ _ _ _ _ _ us hl => match us, hl with | [_, _, _, _], _ => rfl
theorem b_law_pairs_of {K : PySem.W.Frag} {mg : Str → Option Value} (T : TX K mg) : Binds K T.fd_law_pairs_of ["tree"] [] := T.F_law_pairs_of.bindsN fun _ _ _ _ _ _ us hl => match us, hl with | [_], _ => rfl
theorem b_law_same {K : PySem.W.Frag} {mg : Str → Option Value} (T : TX K mg) : Binds K T.fd_law_same ["found", "due"] [] := T.F_law_same.bindsN fun _ _ _ _ _ _ us hl => match us, hl with | [_, _], _ => rfl
theorem b_law_walked {K : PySem.W.Frag} {mg : Str → Option Value} (T : TX K mg) : Binds K T.fd_law_walked ["pages", "number"] [] := T.F_law_walked.bindsN fun _ _ _ _ _ _ us hl => match us, hl with | [_, _], _ => rfl
theorem b_law_right {K : PySem.W.Frag} {mg : Str → Option Value} (T : TX K mg) : Binds K T.fd_law_right ["tree"] [] := T.F_law_right.bindsN fun _ _ _ _ _ _ us hl => match us, hl with | [_], _ => rfl
theorem b_law_renamed {K : PySem.W.Frag} {mg : Str → Option Value} (T : TX K mg) : Binds K T.fd_law_renamed ["tree"] [] := T.F_law_renamed.bindsN fun _ _ _ _ _ _ us hl => match us, hl with | [_], _ => rfl
theorem b_law {K : PySem.W.Frag} {mg : Str → Option Value} (T : TX K mg) : Binds K T.fd_law ["script"] [] := T.F_law.bindsN fun _ _ _ _ _ _ us hl => match us, hl with | [_], _ => rfl
end K29

namespace K29
open PySem PySem.Spec PyProof.Rows L2 RZ HX
/-- a pot at p: its three numbers, the last at most B -/
def PotOk (H : Hp) (p : Addr) (B : Int) : Prop := ∃ x y c : Int, H p = some (.lst [.int x, .int y, .int c]) ∧ 0 ≤ x ∧ x < 2 ^ 2000 ∧ 0 ≤ y ∧ y < 2 ^ 61 ∧ 0 ≤ c ∧ c ≤ B
theorem PotOk.le {H : Hp} {p : Addr} {B C : Int} (h : PotOk H p B) (l : B ≤ C) : PotOk H p C := by
  obtain ⟨x, y, c, h1, h2, h3, h4, h5, h6, h7⟩ := h
  exact ⟨x, y, c, h1, h2, h3, h4, h5, h6, Int.le_trans h7 l⟩
theorem PotOk.same {H H' : Hp} {p : Addr} {B : Int} (h : PotOk H p B) (s : Same H H') : PotOk H' p B := by
  obtain ⟨x, y, c, h1, r⟩ := h
  exact ⟨x, y, c, s _ _ h1, r⟩
theorem PotOk.ne {H : Hp} {p q : Addr} {B : Int} (h : PotOk H p B) (n : H q = none) : p ≠ q := by
  obtain ⟨x, y, c, h1, r⟩ := h
  exact ne_of_none h1 n
theorem PotOk.new {H : Hp} {p q : Addr} {B : Int} {o : HO} (h : PotOk H p B) (n : H q = none) : PotOk (upd H q o) p B := h.same (same_new n)
theorem ten600 : (((10 : Int) ^ (60 : Int).toNat) ^ (10 : Int).toNat) < 2 ^ 2000 := by decide +kernel
section
variable {P : Program} {w : World} {K : PySem.W.Frag} {mg : Str → Option Value} {base : Heap}
def sp_law_pot (K : PySem.W.Frag) : Sp := fun vs H Q _ => ∃ (a : Addr) (ns : List Int) (k : Nat), vs = [.ref a, .int (k : Int)] ∧ SqL K H a (ns.map V.int) ∧ k ≤ 1000 ∧ ∀ H' p, Same H H' → H p = none → PotOk H' p 0 → Q (.ref p) H'
theorem ok_law_pot (T : TX K mg) : FnOk P w K mg base CX0 1 (He.ga K "_law_pot") T.fd_law_pot ["script", "k"] (sp_law_pot K) := by
  refine T.F_law_pot.ok sc_law_pot (fun vs H Q E h => ?_) (fun cdv A outer st H vs Q E hr h => ?_)
  · obtain ⟨a, ns, k, rfl, _⟩ := h
    rfl
  · obtain ⟨a, ns, k, rfl, hS, hk, kq⟩ := h
    refine ⟨_, PSs.nox (pss_cons (ps_set (i := 2) sc_law_pot.nd rfl (Or.inl rfl) pe_int)
 (Evl.pss_cut (ps_if (pt_cmpR op_lt (pv 1) (pe_callB call_len_seq rfl T.n_len PySem.boot_len (pa_cons (pv 0) pa_nil)) (nomark _))
 (pss_one (ps_set (i := 2) sc_law_pot.nd rfl (Or.inl rfl) (pe_op op_mod (pe_callB call_abs rfl T.n_abs (by decide +kernel) (pa_cons (pe_ix ix_list (pv 0) (pv 1) (fun _ _ => rfl)) pa_nil)) (pe_op op_powW (pe_op op_powW pe_int pe_int) pe_int))))
 pss_nil)
 (pss_one (ps_ret (pe_lst (pa_cons (pe_op op_mulW (pv 2) (pe_callTy call_int1 rfl T.n_int (by decide +kernel) (pa_cons (pe_cmpR op_ge (pv 2) (pe_op op_powW pe_int pe_int) (nomark _)) pa_nil))) (pa_cons (pe_op op_mod (pe_op op_powW (pe_op op_add (pe_op op_add (pe_op op_mod (pv 2) pe_int) (pe_op op_mulW pe_int (pv 1))) pe_int) pe_int) pe_int) (pa_cons pe_int pa_nil)))))))), ?_⟩
    refine ⟨fun σ' H' => ∃ cell : Int, σ' = [some (.ref a), some (.int (k : Int)), some (.int cell)] ∧ H' = H ∧ 0 ≤ cell ∧ cell < 2 ^ 2000, ?_, ?_⟩
    · refine ⟨_, rfl, _, rfl, a, _, rfl, .inl hS, _, _, rfl, rfl, _, rfl, ?_⟩
      refine ite2 (fun hc => ?_) (fun hc => ?_)
      · have hc' := of_decide_eq_true hc
        rw [List.length_map] at hc'
        obtain ⟨n, hn⟩ : ∃ n, ns[k]? = some n := ⟨ns[k]'(by omega), List.getElem?_eq_getElem (by omega)⟩
        refine ⟨_, rfl, _, rfl, a, _, _, _, rfl, rfl, hS, at_of (v := V.int n) (by rw [List.getElem?_map, hn]; rfl) rfl, _, rfl, ?_⟩
        have p1 : (0 : Int) < 10 ^ (60 : Int).toNat := Int.pow_pos (by decide)
        have p2 : (0 : Int) < ((10 : Int) ^ (60 : Int).toNat) ^ (10 : Int).toNat := Int.pow_pos p1
        refine ⟨_, _, rfl, rfl, powW_of (a := 4) (by decide) (by decide) (by decide) (by decide), _, _, rfl, rfl, powW_of (a := 200) (by decide) (by decide +kernel) (by decide) (by decide), _, _, rfl, rfl, p2, ?_⟩
        refine ⟨_, rfl, rfl, Int.emod_nonneg _ (Int.ne_of_gt p2), Int.lt_trans (Int.emod_lt_of_pos _ p2) ten600⟩
      · exact ⟨0, rfl, rfl, by decide, Int.pow_pos (by decide)⟩
    · rintro σ' H' ⟨cell, rfl, rfl, c0, c1⟩
      have cn : cell.natAbs < 2 ^ 2000 := by
        have z : ((cell.natAbs : Nat) : Int) < ((2 ^ 2000 : Nat) : Int) := by
          rw [Int.natAbs_of_nonneg c0]
          exact_mod_cast c1
        exact_mod_cast z
      refine ⟨_, rfl, _, rfl, _, _, rfl, rfl, powW_of (a := 4) (by decide) (by decide) (by decide) (by decide), _, _, rfl, rfl, .inr ⟨_, rfl, ?_⟩⟩
      have bb : ∀ b : Bool, (0 : Int) ≤ (if b = true then 1 else 0) ∧ (if b = true then 1 else 0 : Int) ≤ 1 := fun b => by cases b <;> decide
      obtain ⟨d0, d1⟩ := bb (decide ((10 : Int) ^ (18 : Int).toNat ≤ cell))
      generalize (if decide ((10 : Int) ^ (18 : Int).toNat ≤ cell) = true then 1 else 0 : Int) = d at d0 d1
      refine ⟨_, _, rfl, rfl, wide_mul (a := 2000) (b := 2) cn (by omega) (by decide) (by decide) (by decide), ?_⟩
      have m1 : 0 ≤ cell % 2147483629 := Int.emod_nonneg _ (by decide)
      have m2 : cell % 2147483629 < 2147483629 := Int.emod_lt_of_pos _ (by decide)
      refine ⟨_, rfl, _, _, rfl, rfl, (show (0 : Int) < 2147483629 by decide), _, rfl, _, _, rfl, rfl, wide_mul (a := 20) (b := 20) (by decide) (by omega) (by decide) (by decide) (by decide), _, _, rfl, rfl, _, _, rfl, rfl, _, _, rfl, rfl, powW_of (a := 64) (by decide) (by omega) (by decide) (by decide), _, _, rfl, rfl, (show (0 : Int) < 2305843009213693951 by decide), ?_⟩
      refine ⟨by show 3 ≤ sizeLine; decide, fun p hp => kq _ p (same_new hp) hp ⟨_, _, _, upd_same, Int.mul_nonneg c0 d0, ?_, Int.emod_nonneg _ (by decide), Int.lt_of_lt_of_le (Int.emod_lt_of_pos _ (by decide)) (by decide), Int.le_refl 0, Int.le_refl 0⟩⟩
      have z := Int.mul_le_mul_of_nonneg_left d1 c0
      rw [Int.mul_one] at z
      exact Int.lt_of_le_of_lt z c1
def sp_law_take : Sp := fun vs H Q _ => ∃ (p : Addr) (many B : Int), vs = [.ref p, .int many] ∧ 0 < many ∧ many < 2 ^ 60 ∧ PotOk H p B ∧ B < 2 ^ 40 ∧ ∀ H' v, But p H H' → PotOk H' p (B + 1) → 0 ≤ v → v < many → Q (.int v) H'
theorem ok_law_take (T : TX K mg) : FnOk P w K mg base CX0 1 (He.ga K "_law_take") T.fd_law_take ["pot", "many"] sp_law_take := by
  refine T.F_law_take.ok sc_law_take (fun vs H Q E h => ?_) (fun cdv A outer st H vs Q E hr h => ?_)
  · obtain ⟨p, many, B, rfl, _⟩ := h
    rfl
  · obtain ⟨p, many, B, rfl, hm0, hm1, ⟨x, y, c, hp, x0, x1, y0, y1, c0, c1⟩, hB, kq⟩ := h
    refine ⟨_, PSs.nox (pss_cons (ps_if (pt_cmpR op_gt (pe_ix ix_list (pv 0) pe_int (fun _ _ => rfl)) pe_int (nomark _))
 (pss_cons (ps_set (i := 2) sc_law_take.nd rfl (Or.inl rfl) (pe_op op_mod (pe_ix ix_list (pv 0) pe_int (fun _ _ => rfl)) (pv 1)))
 (pss_cons (ps_asg (pe_op op_fdivW (pe_ix ix_list (pv 0) pe_int (fun _ _ => rfl)) (pv 1)) (pg_sub (pv 0) pe_int set_list))
 (pss_one (ps_ret (pv 2)))))
 pss_nil)
 (pss_cons (ps_asg (pe_op op_add (pe_ix ix_list (pv 0) pe_int (fun _ _ => rfl)) pe_int) (pg_sub (pv 0) pe_int set_list))
 (pss_cons (ps_set (i := 3) sc_law_take.nd rfl (Or.inl rfl) (pe_op op_mod (pe_op op_powW (pe_op op_add (pe_ix ix_list (pv 0) pe_int (fun _ _ => rfl)) (pe_op op_mulW pe_int (pe_ix ix_list (pv 0) pe_int (fun _ _ => rfl)))) pe_int) pe_int))
 (pss_cons (ps_set (i := 4) sc_law_take.nd rfl (Or.inl rfl) (pe_op op_mod (pe_op op_powW (pe_op op_add (pe_op op_add (pv 3) (pe_op op_mod (pe_ix ix_list (pv 0) pe_int (fun _ _ => rfl)) pe_int)) (pe_op op_mulW pe_int (pe_ix ix_list (pv 0) pe_int (fun _ _ => rfl)))) pe_int) pe_int))
 (pss_one (ps_ret (pe_op op_mod (pe_op op_fdivW (pv 4) pe_int) (pv 1)))))))), ?_⟩
    have i0 : ∀ (a b c : V), atI [a, b, c] 0 = some a := fun _ _ _ => rfl
    have i1 : ∀ (a b c : V), atI [a, b, c] 1 = some b := fun _ _ _ => rfl
    have i2 : ∀ (a b c : V), atI [a, b, c] 2 = some c := fun _ _ _ => rfl
    have bt : ∀ {o : HO}, But p H (upd H p o) := (But.refl p H).upd
    refine ⟨_, rfl, p, _, _, _, rfl, rfl, SqL.of hp, i0 _ _ _, _, _, rfl, rfl, _, rfl, ?_⟩
    refine ite2 (fun hc => ?_) (fun hc => ?_)
    · refine ⟨_, rfl, p, _, _, _, rfl, rfl, SqL.of hp, i0 _ _ _, _, rfl, _, _, rfl, rfl, hm0, ?_⟩
      refine ⟨_, rfl, p, _, _, _, rfl, rfl, SqL.of hp, i0 _ _ _, _, rfl, _, _, rfl, rfl, wide_div (b := 60) hm0 (by omega) (by decide) (by decide), _, rfl, p, _, _, _, rfl, rfl, hp, rfl, ?_⟩
      refine ⟨_, rfl, kq _ _ bt ⟨_, _, _, upd_same, Int.ediv_nonneg x0 (Int.le_of_lt hm0), Int.lt_of_le_of_lt (Int.ediv_le_self _ x0) x1, y0, y1, c0, by omega⟩ (Int.emod_nonneg _ (Int.ne_of_gt hm0)) (Int.emod_lt_of_pos _ hm0)⟩
    · refine ⟨_, rfl, p, _, _, _, rfl, rfl, SqL.of hp, i2 _ _ _, _, _, rfl, rfl, _, rfl, p, _, _, _, rfl, rfl, hp, rfl, ?_⟩
      have h2 : upd H p (.lst ([V.int x, V.int y, V.int c].set 2 (.int (c + 1)))) p = some (.lst [.int x, .int y, .int (c + 1)]) := upd_same
      refine ⟨_, rfl, p, _, _, _, rfl, rfl, SqL.of h2, i1 _ _ _, _, rfl, p, _, _, _, rfl, rfl, SqL.of h2, i2 _ _ _, ?_⟩
      refine ⟨_, _, rfl, rfl, wide_mul (a := 20) (b := 42) (by decide) (by omega) (by decide) (by decide) (by decide), _, _, rfl, rfl, _, _, rfl, rfl, powW_of (a := 64) (by decide) (by omega) (by decide) (by decide), _, _, rfl, rfl, (show (0 : Int) < 2305843009213693921 by decide), ?_⟩
      have m1 : 0 ≤ (y + 104729 * (c + 1)) ^ (3 : Int).toNat % 2305843009213693921 := Int.emod_nonneg _ (by decide)
      have m2 : (y + 104729 * (c + 1)) ^ (3 : Int).toNat % 2305843009213693921 < 2305843009213693921 := Int.emod_lt_of_pos _ (by decide)
      generalize (y + 104729 * (c + 1)) ^ (3 : Int).toNat % 2305843009213693921 = one at m1 m2
      refine ⟨_, rfl, _, rfl, p, _, _, _, rfl, rfl, SqL.of h2, i1 _ _ _, _, _, rfl, rfl, (show (0 : Int) < 65537 by decide), _, _, rfl, rfl, _, rfl, p, _, _, _, rfl, rfl, SqL.of h2, i2 _ _ _, ?_⟩
      have m3 : 0 ≤ y % 65537 := Int.emod_nonneg _ (by decide)
      have m4 : y % 65537 < 65537 := Int.emod_lt_of_pos _ (by decide)
      generalize y % 65537 = yy at m3 m4
      refine ⟨_, _, rfl, rfl, wide_mul (a := 20) (b := 42) (by decide) (by omega) (by decide) (by decide) (by decide), _, _, rfl, rfl, _, _, rfl, rfl, powW_of (a := 64) (by decide) (by omega) (by decide) (by decide), _, _, rfl, rfl, (show (0 : Int) < 2305843009213693907 by decide), ?_⟩
      refine ⟨_, rfl, _, _, rfl, rfl, ⟨by decide, by decide⟩, _, rfl, _, _, rfl, rfl, hm0, ?_⟩
      exact kq _ _ bt ⟨_, _, _, h2, x0, x1, y0, y1, by omega, by omega⟩ (Int.emod_nonneg _ (Int.ne_of_gt hm0)) (Int.emod_lt_of_pos _ hm0)
end
end K29

namespace K29
open PySem PySem.Spec PyProof.Rows L2 RZ HX TR
theorem PotOk.keep {H H' : Hp} {p : Addr} {B : Int} (h : PotOk H p B) (b : But p H H') : Keep H H' := Keep.but b fun u z => by
  obtain ⟨x, y, c, h1, _⟩ := h
  rw [h1] at z
  cases z
  rfl
theorem PotOk.noTup {H : Hp} {p : Addr} {B : Int} (h : PotOk H p B) : ∀ u, H p = some u → tpb u = false := fun u z => by
  obtain ⟨x, y, c, h1, _⟩ := h
  rw [h1] at z
  cases z
  rfl
section
variable {P : Program} {w : World} {K : PySem.W.Frag} {mg : Str → Option Value} {base : Heap}
def sp_law_shape (N : Nat) : Sp := fun vs H Q _ => ∃ (p : Addr) (room l wide : Nat) (top : Bool) (B : Int), vs = [.ref p, .int (room : Int), .int ((l + 1 : Nat) : Int), .bl top, .int (wide : Int)] ∧ l < N ∧ 3 ≤ room ∧ room ≤ 8 ∧ wide ≤ 1000 ∧ PotOk H p B ∧ B + cS room l < 2 ^ 39 ∧
  ∀ (H' : Hp) (v : V) (s : Sh l), But p H H' → PotOk H' p (B + cS room l) → ShAt H' l v s → WfSh room l top s → Q v H'
theorem ok_law_shape (T : TX K mg) : ∀ N : Nat, FnOk P w K mg base CX0 (N + 2) (He.ga K "_law_shape") T.fd_law_shape ["pot", "space", "levels", "top", "wide"] (sp_law_shape N) := by
  intro N
  induction N with
  | zero =>
    refine T.F_law_shape.ok sc_law_shape (fun vs H Q E h => ?_) (fun cdv A outer st H vs Q E hr h => ?_)
    · obtain ⟨p, room, l, wide, top, B, rfl, _⟩ := h
      rfl
    · obtain ⟨p, room, l, wide, top, B, rfl, h1, _⟩ := h
      omega
  | succ N ih =>
    have G_law_shape := ih
    have b_law_shape := b_law_shape T
    have G_law_take : FnOk P w K mg base CX0 1 (He.ga K "_law_take") T.fd_law_take ["pot", "many"] sp_law_take := ok_law_take T
    have b_law_take := b_law_take T
    refine T.F_law_shape.ok sc_law_shape (fun vs H Q E h => ?_) (fun cdv A outer st H vs Q E hr h => ?_)
    · obtain ⟨p, room, l, wide, top, B, rfl, _⟩ := h
      rfl
    · obtain ⟨p, room, l, wide, top, B, rfl, hl, hr3, hr8, hw, hp, hB, kq⟩ := h
      refine ⟨_, PSs.nox (Evl.pss_cut (ps_set (i := 5) sc_law_shape.nd rfl (Or.inl rfl) (pe_ix ix_list (pe_lst (pa_cons (pe_op op_fdivW (pe_op op_add (pv 1) pe_int) pe_int) (pa_cons (pe_ix ix_list (pe_lst (pa_cons pe_int (pa_cons pe_int pa_nil))) (pe_callTy call_int1 rfl T.n_int (by decide +kernel) (pa_cons (pe_cmpR op_eq (pv 2) pe_int (nomark _)) pa_nil)) (fun _ _ => rfl)) pa_nil))) (pe_callTy call_int1 rfl T.n_int (by decide +kernel) (pa_cons (pv 3) pa_nil)) (fun _ _ => rfl)))
 (pss_cons (ps_if (pt_cmpR op_eq (pv 2) pe_int (nomark _))
 (pss_one (ps_ret (pe_op op_add (pv 5) (pe_call G_law_take (hr.mono (by first | decide | omega)) rfl T.g_law_take T.F_law_take.kp b_law_take .nil pass0 (pa_cons (pv 0) (pa_cons (pe_op op_add (pe_op op_sub (pv 1) (pv 5)) pe_int) pa_nil))))))
 pss_nil)
 (Evl.pss_cut (ps_set (i := 6) sc_law_shape.nd rfl (Or.inl rfl) (pe_op op_add (pv 5) (pe_call G_law_take (hr.mono (by first | decide | omega)) rfl T.g_law_take T.F_law_take.kp b_law_take .nil pass0 (pa_cons (pv 0) (pa_cons (pe_op op_add (pe_callB (call_min2 rfl) rfl T.n_min (by decide +kernel) (pa_cons (pv 4) (pa_cons (pe_op op_sub (pv 1) (pv 5)) pa_nil))) pe_int) pa_nil)))))
 (pss_one (ps_ret (pe_callTy call_tuple_of rfl T.n_tuple (by decide +kernel) (pa_cons (pe_lc (own := [("k", 7)]) (g := gName 7) (tt := tYes) rfl sc_law_shape.nd (pi_range1 rfl T.n_range (pa_cons (pv 6) pa_nil)) (blkOk_by (own := [("k", 7)]) (N := ["pot", "space", "levels", "top", "wide", "least", "many", "k"]) (sc := defScope s_law_shape) (by decide +kernel)) (fun _ _ _ _ _ => (pg_name (i := 7) sc_law_shape.nd rfl (Or.inl rfl))) (fun _ _ _ _ _ => pts_nil) (fun _ _ _ _ _ => (pe_call G_law_shape (hr.mono (by first | decide | omega)) rfl T.g_law_shape T.F_law_shape.kp b_law_shape .nil pass0 (pa_cons (pv 0) (pa_cons (pv 1) (pa_cons (pe_op op_sub (pv 2) pe_int) (pa_cons pe_bl (pa_cons (pv 4) pa_nil)))))))) pa_nil))))))), ?_⟩
      refine ⟨fun σ' H' => σ' = [some (.ref p), some (.int (room : Int)), some (.int ((l + 1 : Nat) : Int)), some (.bl top), some (.int (wide : Int)), some (.int ((loS room l top : Nat) : Int)), none, none] ∧ Same H H', ?_, ?_⟩
      · refine ⟨_, rfl, _, _, rfl, rfl, _, _, rfl, rfl, ⟨by decide, by decide⟩, by show 2 ≤ sizeLine; decide, fun q hq => ?_⟩
        refine ⟨_, rfl, rfl, .inr ⟨_, rfl, ?_⟩⟩
        have hx : ∃ z : Int, atI [V.int 2, V.int 0] (if decide (V.int ((l + 1 : Nat) : Int) = V.int 1) = true then 1 else 0) = some (.int z) ∧ z = ((if l = 0 then 0 else 2 : Nat) : Int) := by
          by_cases e : l = 0
          · subst e
            exact ⟨0, rfl, rfl⟩
          · have e2 : decide (V.int ((l + 1 : Nat) : Int) = V.int 1) = false := decide_eq_false fun z => e (by injection z with z; omega)
            rw [e2]
            exact ⟨2, rfl, by rw [if_neg e]; rfl⟩
        obtain ⟨z, hz1, hz2⟩ := hx
        refine ⟨q, _, _, _, rfl, rfl, SqL.of upd_same, hz1, by show 2 ≤ sizeLine; decide, fun q2 hq2 => ?_⟩
        refine ⟨_, rfl, .inr ⟨_, rfl, ?_⟩⟩
        have hy : atI [V.int (((room : Int) + 1) / 2), V.int z] (if top = true then 1 else 0) = some (.int ((loS room l top : Nat) : Int)) := by
          unfold loS
          cases top with
          | true =>
            rw [if_pos rfl, if_pos rfl, ← hz2]
            rfl
          | false =>
            have ez : ((room : Int) + 1) / 2 = (((room + 1) / 2 : Nat) : Int) := by omega
            rw [ez]
            rfl
        refine ⟨q2, _, _, _, rfl, rfl, SqL.of upd_same, hy, ?_⟩
        exact ⟨rfl, same_upd (same_new hq) (Same.free (same_new hq) hq2)⟩
      · rintro σ' H1 ⟨rfl, s1⟩
        have hp1 := hp.same s1
        have lo_le : loS room l top ≤ room := by unfold loS; split <;> (try split) <;> omega
        refine ⟨_, rfl, rfl, _, rfl, ?_⟩
        by_cases e : l = 0
        · have e2 : decide (V.int ((l + 1 : Nat) : Int) = V.int 1) = true := decide_eq_true (by rw [e]; rfl)
          rw [e2]
          refine iteT ?_
          subst e
          refine ⟨_, rfl, _, rfl, _, rfl, _, rfl, _, _, rfl, rfl, _, _, rfl, rfl, ?_⟩
          refine ⟨p, _, B, rfl, by omega, by omega, hp1, by omega, fun H2 v b2 hp2 l2 u2 => ⟨_, _, rfl, rfl, ?_⟩⟩
          refine kq H2 _ (loS room 0 top + v.toNat : Nat) (fun b o nb z => b2 b o nb (s1 b o z)) hp2 ?_ ⟨by show loS room 0 top ≤ loS room 0 top + v.toNat; omega, by show loS room 0 top + v.toNat ≤ room; omega⟩
          show V.int (((loS room 0 top : Nat) : Int) + v) = V.int ((loS room 0 top + v.toNat : Nat) : Int)
          congr 1
          omega
        · have e2 : decide (V.int ((l + 1 : Nat) : Int) = V.int 1) = false := decide_eq_false fun z => e (by injection z with z; omega)
          rw [e2]
          refine iteF ?_
          obtain ⟨l', rfl⟩ : ∃ l', l = l' + 1 := ⟨l - 1, by omega⟩
          have c1 : 1 ≤ cS room l' := by cases l' <;> (unfold cS; omega)
          have cc : cS room (l' + 1) = 1 + room * cS room l' := rfl
          have rc : 1 ≤ room * cS room l' := Nat.mul_pos (by omega) c1
          refine ⟨fun σ' H' => ∃ m : Nat, σ' = [some (.ref p), some (.int (room : Int)), some (.int ((l' + 1 + 1 : Nat) : Int)), some (.bl top), some (.int (wide : Int)), some (.int ((loS room (l' + 1) top : Nat) : Int)), some (.int (m : Int)), none] ∧ But p H H' ∧
            PotOk H' p (B + 1) ∧ loS room (l' + 1) top ≤ m ∧ m ≤ room, ?_, ?_⟩
          · refine ⟨_, rfl, _, rfl, _, rfl, _, rfl, _, rfl, _, _, rfl, rfl, _, _, rfl, _, _, rfl, rfl, ?_⟩
            refine ⟨p, _, B, rfl, by split <;> omega, by split <;> omega, hp1, by omega, fun H2 v b2 hp2 l2 u2 => ⟨_, _, rfl, rfl, ?_⟩⟩
            have u3 : v ≤ (room : Int) - ((loS room (l' + 1) top : Nat) : Int) := by split at u2 <;> omega
            refine ⟨loS room (l' + 1) top + v.toNat, ?_, fun b o nb z => b2 b o nb (s1 b o z), hp2, by omega, by omega⟩
            show [some (V.ref p), some (V.int (room : Int)), some (V.int ((l' + 1 + 1 : Nat) : Int)), some (V.bl top), some (V.int (wide : Int)), some (V.int ((loS room (l' + 1) top : Nat) : Int)), some (V.int (((loS room (l' + 1) top : Nat) : Int) + v)), none] = _
            rw [show ((loS room (l' + 1) top : Nat) : Int) + v = ((loS room (l' + 1) top + v.toNat : Nat) : Int) by omega]
          rintro σ' H2 ⟨m, rfl, bB, hp2, lom, mle⟩
          refine ⟨_, rfl, _, rfl, by omega, by omega, fun D hD => ?_⟩
          rw [show ((m : Int)).toNat = m by omega]
          have npD : p ≠ D := hp2.ne hD
          have mono : ∀ i : Nat, i ≤ m → B + 1 + ((i * cS room l' : Nat) : Int) + (cS room l' : Int) * ((if i < m then 1 else 0 : Nat) : Int) ≤ B + cS room (l' + 1) := by
            intro i hi
            have h1 : (i + (if i < m then 1 else 0)) * cS room l' ≤ room * cS room l' := Nat.mul_le_mul_right _ (by split <;> omega)
            rw [Nat.add_mul] at h1
            have e3 : ((i * cS room l' + (if i < m then 1 else 0) * cS room l' : Nat) : Int) ≤ ((room * cS room l' : Nat) : Int) := by omega
            have e4 : (cS room l' : Int) * ((if i < m then 1 else 0 : Nat) : Int) = (((if i < m then 1 else 0) * cS room l' : Nat) : Int) := by
              rw [Int.mul_comm]
              rfl
            rw [e4, cc]
            omega
          refine lc_it walk_range (fun i H' => But p H2 H' ∧ PotOk H' p (B + 1 + ((i * cS room l' : Nat) : Int)) ∧ ∃ (xs : List V) (ks : List (Sh l')), H' D = some (.lst xs) ∧ xs.length = i ∧ ks.length = i ∧ Paired (ShAt H' l') xs ks ∧ ∀ k ∈ ks, WfSh room l' false k)
            ⟨(But.refl p H2).new hD, by rw [Nat.zero_mul]; exact (hp2.le (by omega)).new hD, [], [], upd_same, rfl, rfl, .nil, fun k hk => nomatch hk⟩ (fun _ _ _ _ => trivial) ?_ ?_
          · rintro i x H3 H4 hi ⟨b3, hp3, xs, ks, hD3, hxl, hkl, hpr, hwf⟩ ⟨rfl, rfl⟩
            have mi := mono i (by omega)
            rw [if_pos hi] at mi
            refine ⟨rfl, ?_⟩
            dsimp only [tYes]
            rw [if_pos rfl]
            refine ⟨_, rfl, _, rfl, _, rfl, _, _, rfl, rfl, _, rfl, ?_⟩
            refine ⟨p, room, l', wide, false, B + 1 + ((i * cS room l' : Nat) : Int), ?_, by omega, hr3, hr8, hw, hp3, by omega, fun H5 v5 s5 b5 hp5 hs5 hw5 => ?_⟩
            · show [V.ref p, V.int (room : Int), V.int ((((l' + 1) + 1 : Nat) : Int) - 1), V.bl false, V.int (wide : Int)] = _
              rw [show (((l' + 1) + 1 : Nat) : Int) - 1 = ((l' + 1 : Nat) : Int) by omega]
            have k5 : Keep H4 H5 := hp3.keep b5
            have hD5 := b5 _ _ npD.symm hD3
            have tD : ∀ u, H5 D = some u → tpb u = false := fun u z => by
              rw [hD5] at z
              cases z
              rfl
            have k6 : Keep H5 (upd H5 D (.lst (xs ++ [v5]))) := (Keep.refl H5).upd tD
            refine ⟨xs, hD5, ?_, fun b o nb z => ?_, ?_, xs ++ [v5], ks ++ [s5], upd_same, by rw [List.length_append, hxl]; rfl, by rw [List.length_append, hkl]; rfl, ?_, ?_⟩
            · rw [hxl]
              exact Nat.lt_of_le_of_lt (by omega : i ≤ 1000) (by decide)
            · rw [upd_ne (ne_of_none z hD)]
              exact b5 b o nb (b3 b o nb z)
            · have hp6 : PotOk (upd H5 D (.lst (xs ++ [v5]))) p (B + 1 + ((i * cS room l' : Nat) : Int) + cS room l') := by
                obtain ⟨x, y, c, h1, r⟩ := hp5
                exact ⟨x, y, c, by rw [upd_ne npD]; exact h1, r⟩
              refine hp6.le ?_
              rw [Nat.succ_mul]
              omega
            · exact paired_snoc (hs5.keep k6) (paired_imp (fun _ _ r => (ShAt.keep k5 r).keep k6) hpr)
            · intro k hk
              rcases List.mem_append.mp hk with hk | hk
              · exact hwf k hk
              · obtain rfl := List.mem_singleton.mp hk
                exact hw5
          · rintro H3 ⟨b3, hp3, xs, ks, hD3, hxl, hkl, hpr, hwf⟩
            refine ⟨D, _, rfl, .inl ⟨SqL.of hD3, fun q hq => ?_⟩⟩
            have mi := mono m (by omega)
            rw [if_neg (by omega)] at mi
            refine kq _ (.ref q) ks (fun b o nb z => ?_) ((hp3.new hq).le (by omega)) ⟨q, xs, rfl, upd_same, paired_imp (fun _ _ r => ShAt.keep (Keep.of (same_new hq)) r) hpr⟩ ⟨?_, ?_, hwf⟩
            · have z3 := b3 b o nb (bB b o nb z)
              rw [upd_ne (ne_of_none z3 hq)]
              exact z3
            · show loS room (l' + 1) top ≤ ks.length
              omega
            · show ks.length ≤ room
              omega
end
end K29

namespace K29
open PySem PySem.Spec PyProof.Rows L2 RZ HX TR
theorem sum_cast {α : Type} (f : α → Nat) : ∀ xs : List α, (xs.map fun x => ((f x : Nat) : Int)).sum = ((xs.map f).sum : Nat)
  | [] => rfl
  | x :: xs => by
    rw [List.map_cons, List.sum_cons, List.map_cons, List.sum_cons, sum_cast f xs]
    omega
section
variable {P : Program} {w : World} {K : PySem.W.Frag} {mg : Str → Option Value} {base : Heap}
def sp_law_many (N : Nat) : Sp := fun vs H Q _ => ∃ (l room : Nat) (top : Bool) (v : V) (s : Sh l), vs = [v] ∧ l < N ∧ room ≤ 8 ∧ WfSh room l top s ∧ ShAt H l v s ∧ (∀ H', Same H H' → Q (.int (cntS l s : Int)) H')
theorem ok_law_many (T : TX K mg) : ∀ N : Nat, FnOk P w K mg base CX0 (N + 1) (He.ga K "_law_many") T.fd_law_many ["shape"] (sp_law_many N) := by
  intro N
  induction N with
  | zero =>
    refine T.F_law_many.ok sc_law_many (fun vs H Q E h => ?_) (fun cdv A outer st H vs Q E hr h => ?_)
    · obtain ⟨l, room, top, v, s, rfl, _⟩ := h
      rfl
    · obtain ⟨l, room, top, v, s, rfl, h1, _⟩ := h
      omega
  | succ N ih =>
    have G_law_many := ih
    have b_law_many := b_law_many T
    refine T.F_law_many.ok sc_law_many (fun vs H Q E h => ?_) (fun cdv A outer st H vs Q E hr h => ?_)
    · obtain ⟨l, room, top, v, s, rfl, _⟩ := h
      rfl
    · obtain ⟨l, room, top, v, s, rfl, hl, hr8, hwf, hs, kq⟩ := h
      refine ⟨_, PSs.nox (pss_cons (ps_if (pt_val (pe_callB call_isi rfl T.n_isinstance (by decide +kernel) (pa_cons (pv 0) (pa_cons (pe_ty "int" T.n_int (by decide +kernel)) pa_nil))))
 (pss_one (ps_ret (pv 0)))
 pss_nil)
 (pss_one (ps_ret (pe_callB (cr_sum rfl) rfl T.n_sum (by decide +kernel) (pa_cons (pe_lc (own := [("kid", 1)]) (g := gName 1) (tt := tYes) rfl sc_law_many.nd (pi_tup (pv 0)) (blkOk_by (own := [("kid", 1)]) (N := ["shape", "kid"]) (sc := defScope s_law_many) (by decide +kernel)) (fun _ _ _ _ _ => (pg_name (i := 1) sc_law_many.nd rfl (Or.inl rfl))) (fun _ _ _ _ _ => pts_nil) (fun _ _ _ _ _ => (pe_call G_law_many (hr.mono (by first | decide | omega)) rfl T.g_law_many T.F_law_many.kp b_law_many .nil pass0 (pa_cons (pv 1) pa_nil)))) pa_nil))))), ?_⟩
      cases l with
      | zero =>
        obtain rfl : v = .int (s.n : Int) := hs
        refine ⟨_, rfl, _, _, .type "int", .type "int", true, rfl, .ty "int", .base (.int _), kit_ty (by decide +kernel), true, rfl, ?_⟩
        refine iteT ?_
        exact ⟨_, rfl, kq H (Same.refl H)⟩
      | succ l =>
        obtain ⟨a, xs, rfl, ha, hp⟩ := hs
        refine ⟨_, rfl, _, _, .type "tuple", .type "int", false, rfl, .ty "int", .base (.tup ha), kit_ty (by decide +kernel), false, rfl, ?_⟩
        refine iteF ?_
        refine ⟨_, rfl, a, rfl, ⟨xs, SqT.of ha⟩, fun D hD => ?_⟩
        have hlen : xs.length = s.ks.length := Paired.length hp
        refine lc_it walk_tup (fun i H' => Same H H' ∧ H' D = some (.lst ((s.ks.take i).map fun k => V.int (cntS l k : Int)))) ⟨same_new hD, upd_same⟩ (fun i H' _ z => SqT.of (z.1 _ _ ha)) ?_ ?_
        · rintro i x H3 H4 hi ⟨s3, hD3⟩ ⟨rfl, hx⟩
          obtain ⟨k, hk, hsk⟩ := pget1 hp hx
          refine ⟨rfl, ?_⟩
          dsimp only [tYes]
          rw [if_pos rfl]
          refine ⟨_, rfl, l, room, false, x, k, rfl, by omega, hr8, hwf.2.2 k (List.mem_of_getElem? hk), hsk.keep (Keep.of s3), fun H5 s5 => ?_⟩
          refine ⟨_, s5 _ _ hD3, ?_, same_upd (s3.trans s5) hD, ?_⟩
          · rw [List.length_map, List.length_take]
            have z := hwf.2.1
            exact Nat.lt_of_le_of_lt (by omega : _ ≤ 8) (by decide)
          · rw [upd_same, take_more hk, List.map_append]
            rfl
        · rintro H3 ⟨s3, hD3⟩
          rw [hlen, List.take_length] at hD3
          refine ⟨D, s.ks.map fun k => (cntS l k : Int), rfl, SqL.of (by rw [hD3, List.map_map]; rfl), ?_⟩
          rw [sum_cast]
          exact kq H3 s3
def sp_law_pages (N : Nat) : Sp := fun vs H Q _ => ∃ (l room : Nat) (top : Bool) (v : V) (s : Sh l), vs = [v] ∧ l < N ∧ room ≤ 8 ∧ WfSh room l top s ∧ ShAt H l v s ∧ (∀ H', Same H H' → Q (.int (pgsS l s : Int)) H')
theorem ok_law_pages (T : TX K mg) : ∀ N : Nat, FnOk P w K mg base CX0 (N + 1) (He.ga K "_law_pages") T.fd_law_pages ["shape"] (sp_law_pages N) := by
  intro N
  induction N with
  | zero =>
    refine T.F_law_pages.ok sc_law_pages (fun vs H Q E h => ?_) (fun cdv A outer st H vs Q E hr h => ?_)
    · obtain ⟨l, room, top, v, s, rfl, _⟩ := h
      rfl
    · obtain ⟨l, room, top, v, s, rfl, h1, _⟩ := h
      omega
  | succ N ih =>
    have G_law_pages := ih
    have b_law_pages := b_law_pages T
    refine T.F_law_pages.ok sc_law_pages (fun vs H Q E h => ?_) (fun cdv A outer st H vs Q E hr h => ?_)
    · obtain ⟨l, room, top, v, s, rfl, _⟩ := h
      rfl
    · obtain ⟨l, room, top, v, s, rfl, hl, hr8, hwf, hs, kq⟩ := h
      refine ⟨_, PSs.nox (pss_cons (ps_if (pt_val (pe_callB call_isi rfl T.n_isinstance (by decide +kernel) (pa_cons (pv 0) (pa_cons (pe_ty "int" T.n_int (by decide +kernel)) pa_nil))))
 (pss_one (ps_ret pe_int))
 pss_nil)
 (pss_one (ps_ret (pe_op op_add pe_int (pe_callB (cr_sum rfl) rfl T.n_sum (by decide +kernel) (pa_cons (pe_lc (own := [("kid", 1)]) (g := gName 1) (tt := tYes) rfl sc_law_pages.nd (pi_tup (pv 0)) (blkOk_by (own := [("kid", 1)]) (N := ["shape", "kid"]) (sc := defScope s_law_pages) (by decide +kernel)) (fun _ _ _ _ _ => (pg_name (i := 1) sc_law_pages.nd rfl (Or.inl rfl))) (fun _ _ _ _ _ => pts_nil) (fun _ _ _ _ _ => (pe_call G_law_pages (hr.mono (by first | decide | omega)) rfl T.g_law_pages T.F_law_pages.kp b_law_pages .nil pass0 (pa_cons (pv 1) pa_nil)))) pa_nil)))))), ?_⟩
      cases l with
      | zero =>
        obtain rfl : v = .int (s.n : Int) := hs
        refine ⟨_, rfl, _, _, .type "int", .type "int", true, rfl, .ty "int", .base (.int _), kit_ty (by decide +kernel), true, rfl, ?_⟩
        refine iteT ?_
        exact kq H (Same.refl H)
      | succ l =>
        obtain ⟨a, xs, rfl, ha, hp⟩ := hs
        refine ⟨_, rfl, _, _, .type "tuple", .type "int", false, rfl, .ty "int", .base (.tup ha), kit_ty (by decide +kernel), false, rfl, ?_⟩
        refine iteF ?_
        refine ⟨_, rfl, a, rfl, ⟨xs, SqT.of ha⟩, fun D hD => ?_⟩
        have hlen : xs.length = s.ks.length := Paired.length hp
        refine lc_it walk_tup (fun i H' => Same H H' ∧ H' D = some (.lst ((s.ks.take i).map fun k => V.int (pgsS l k : Int)))) ⟨same_new hD, upd_same⟩ (fun i H' _ z => SqT.of (z.1 _ _ ha)) ?_ ?_
        · rintro i x H3 H4 hi ⟨s3, hD3⟩ ⟨rfl, hx⟩
          obtain ⟨k, hk, hsk⟩ := pget1 hp hx
          refine ⟨rfl, ?_⟩
          dsimp only [tYes]
          rw [if_pos rfl]
          refine ⟨_, rfl, l, room, false, x, k, rfl, by omega, hr8, hwf.2.2 k (List.mem_of_getElem? hk), hsk.keep (Keep.of s3), fun H5 s5 => ?_⟩
          refine ⟨_, s5 _ _ hD3, ?_, same_upd (s3.trans s5) hD, ?_⟩
          · rw [List.length_map, List.length_take]
            have z := hwf.2.1
            exact Nat.lt_of_le_of_lt (by omega : _ ≤ 8) (by decide)
          · rw [upd_same, take_more hk, List.map_append]
            rfl
        · rintro H3 ⟨s3, hD3⟩
          rw [hlen, List.take_length] at hD3
          refine ⟨D, s.ks.map fun k => (pgsS l k : Int), rfl, SqL.of (by rw [hD3, List.map_map]; rfl), _, _, rfl, rfl, ?_⟩
          rw [sum_cast]
          exact kq H3 s3
end
end K29

namespace K29
open PySem PySem.Spec PyProof.Rows L2 RZ HX TR
/-- a list of pairs -/
def PrsAt (H : Hp) (a : Addr) (ps : List (Int × Int)) : Prop := ∃ xs : List V, H a = some (.lst xs) ∧ Paired (PrAt H) xs ps
/-- pairs as a tree has them -/
def PrsOk (ps : List (Int × Int)) : Prop := ps.Pairwise (fun a b => a.1 < b.1) ∧ ∀ q ∈ ps, 0 ≤ q.1 ∧ q.1 ≤ 1000000000 ∧ 0 ≤ q.2 ∧ q.2 ≤ 1000000000
/-- but for the last one the keys are small -/
def PrsLow (ps : List (Int × Int)) : Prop := ∀ (j : Nat) (q : Int × Int), ps[j]? = some q → j + 1 < ps.length → q.1 < 100000000
theorem pick2 {q : Addr} {H : Hp} {a b : Int} {c : Bool} (h : H q = some (.lst [.int a, .int b])) : ∃ v : Int, H q = some (.lst [.int a, .int b]) ∧ atI [V.int a, V.int b] (if c = true then 1 else 0) = some (.int v) ∧ (v = a ∨ v = b) := by
  cases c with
  | true => exact ⟨b, h, rfl, .inr rfl⟩
  | false => exact ⟨a, h, rfl, .inl rfl⟩
theorem paired_set {α β : Type} {R : α → β → Prop} {x : α} {y : β} : ∀ {xs : List α} {ys : List β} {c : Nat}, Paired R xs ys → R x y → Paired R (xs.set c x) (ys.set c y)
  | _, _, _, .nil, _ => .nil
  | _, _, 0, .cons _ rs, h => .cons h rs
  | _, _, _ + 1, .cons r rs, h => .cons r (paired_set rs h)
theorem prsOk_set {ps : List (Int × Int)} {c : Nat} {y : Int × Int} (h : PrsOk ps) (hl : ps.length = c + 1) (hy : ps[c]? = some y) (hb : ∀ q ∈ ps, q.1 < 10 ^ 9) : PrsOk (ps.set c (10 ^ 9, y.2)) := by
  have e : ps = ps.take c ++ [y] := by
    rw [← take_more hy, List.take_of_length_le (by omega)]
  have e2 : ps.set c ((10 : Int) ^ 9, y.2) = ps.take c ++ [((10 : Int) ^ 9, y.2)] := by
    have hl' : (ps.take c).length = c := by rw [List.length_take]; omega
    rw [e, List.set_append, if_neg (by rw [hl']; omega), hl', Nat.sub_self, List.take_left' hl']
    rfl
  have hp := h.1
  rw [e] at hp
  obtain ⟨h1, _, _⟩ := List.pairwise_append.mp hp
  rw [e2]
  refine ⟨List.pairwise_append.mpr ⟨h1, List.pairwise_singleton _ _, fun a ha b hb' => ?_⟩, fun q hq => ?_⟩
  · obtain rfl := List.mem_singleton.mp hb'
    exact hb a (List.mem_of_mem_take ha)
  · rcases List.mem_append.mp hq with hq | hq
    · exact h.2 q (List.mem_of_mem_take hq)
    · obtain rfl := List.mem_singleton.mp hq
      have := h.2 y (by rw [e]; exact List.mem_append_right _ (List.mem_singleton.mpr rfl))
      exact ⟨(by decide : (0 : Int) ≤ 10 ^ 9), (by decide : (10 : Int) ^ 9 ≤ 1000000000), this.2.2⟩
section
variable {P : Program} {w : World} {K : PySem.W.Frag} {mg : Str → Option Value} {base : Heap}
def sp_law_pairs : Sp := fun vs H Q _ => ∃ (p : Addr) (many : Nat) (B : Int), vs = [.ref p, .int (many : Int)] ∧ many ≤ 40000 ∧ PotOk H p B ∧ B + 10 * many + 10 < 2 ^ 39 ∧
  ∀ (H' : Hp) (a : Addr) (ps : List (Int × Int)), But p H H' → PotOk H' p (B + 10 * many + 10) → H a = none → PrsAt H' a ps → ps.length = many → PrsOk ps → PrsLow ps → Q (.ref a) H'
theorem ok_law_pairs (T : TX K mg) : FnOk P w K mg base CX0 2 (He.ga K "_law_pairs") T.fd_law_pairs ["pot", "many"] sp_law_pairs := by
  have G_law_take : FnOk P w K mg base CX0 1 (He.ga K "_law_take") T.fd_law_take ["pot", "many"] sp_law_take := ok_law_take T
  have b_law_take := b_law_take T
  refine T.F_law_pairs.ok sc_law_pairs (fun vs H Q E h => ?_) (fun cdv A outer st H vs Q E hr h => ?_)
  · obtain ⟨p, many, B, rfl, _⟩ := h
    rfl
  · obtain ⟨p, many, B, rfl, hm, hp, hB, kq⟩ := h
    refine ⟨_, PSs.nox (pss_cons (ps_set (i := 2) sc_law_pairs.nd rfl (Or.inl rfl) (pe_lst pa_nil))
 (Evl.pss_cut (ps_set (i := 3) sc_law_pairs.nd rfl (Or.inl rfl) (pe_ix ix_list (pe_lst (pa_cons pe_int (pa_cons (pe_call G_law_take (hr.mono (by first | decide | omega)) rfl T.g_law_take T.F_law_take.kp b_law_take .nil pass0 (pa_cons (pv 0) (pa_cons pe_int pa_nil))) (pa_cons (pe_call G_law_take (hr.mono (by first | decide | omega)) rfl T.g_law_take T.F_law_take.kp b_law_take .nil pass0 (pa_cons (pv 0) (pa_cons (pe_op op_powW pe_int pe_int) pa_nil))) pa_nil)))) (pe_call G_law_take (hr.mono (by first | decide | omega)) rfl T.g_law_take T.F_law_take.kp b_law_take .nil pass0 (pa_cons (pv 0) (pa_cons pe_int pa_nil))) (fun _ _ => rfl)))
 (pss_cons (ps_for PassesOwn.never rfl (pi_range1 rfl T.n_range (pa_cons (pv 1) pa_nil)) (pg_name (i := 4) sc_law_pairs.nd rfl (Or.inl rfl))
 (Evl.pss_cut (ps_expr (pe_bm PySem.F.plainAttrs_list PySem.F.slot_list_append PySem.F.type_list_append mt_append (pv 2) (pa_cons (pe_tup (pa_cons (pv 3) (pa_cons (pe_ix ix_list (pe_lst (pa_cons (pe_call G_law_take (hr.mono (by first | decide | omega)) rfl T.g_law_take T.F_law_take.kp b_law_take .nil pass0 (pa_cons (pv 0) (pa_cons pe_int pa_nil))) (pa_cons (pe_call G_law_take (hr.mono (by first | decide | omega)) rfl T.g_law_take T.F_law_take.kp b_law_take .nil pass0 (pa_cons (pv 0) (pa_cons (pe_op op_add (pe_op op_powW pe_int pe_int) pe_int) pa_nil))) pa_nil))) (pe_callTy call_int1 rfl T.n_int (by decide +kernel) (pa_cons (pe_cmpR op_eq (pe_call G_law_take (hr.mono (by first | decide | omega)) rfl T.g_law_take T.F_law_take.kp b_law_take .nil pass0 (pa_cons (pv 0) (pa_cons pe_int pa_nil))) pe_int (nomark _)) pa_nil)) (fun _ _ => rfl)) pa_nil))) pa_nil)))
 (pss_one (ps_set (i := 3) sc_law_pairs.nd rfl (Or.inl rfl) (pe_op op_add (pe_op op_add (pv 3) pe_int) (pe_ix ix_list (pe_lst (pa_cons (pe_call G_law_take (hr.mono (by first | decide | omega)) rfl T.g_law_take T.F_law_take.kp b_law_take .nil pass0 (pa_cons (pv 0) (pa_cons pe_int pa_nil))) (pa_cons (pe_call G_law_take (hr.mono (by first | decide | omega)) rfl T.g_law_take T.F_law_take.kp b_law_take .nil pass0 (pa_cons (pv 0) (pa_cons pe_int pa_nil))) pa_nil))) (pe_callTy call_int1 rfl T.n_int (by decide +kernel) (pa_cons (pe_cmpR op_eq (pe_call G_law_take (hr.mono (by first | decide | omega)) rfl T.g_law_take T.F_law_take.kp b_law_take .nil pass0 (pa_cons (pv 0) (pa_cons pe_int pa_nil))) pe_int (nomark _)) pa_nil)) (fun _ _ => rfl)))))))
 (Evl.pss_cut (ps_if (PW.pt (pw_and (pt_cmpR op_gt (pv 1) pe_int (nomark _)) (pw_and1 (pt_cmpR op_eq (pe_call G_law_take (hr.mono (by first | decide | omega)) rfl T.g_law_take T.F_law_take.kp b_law_take .nil pass0 (pa_cons (pv 0) (pa_cons pe_int pa_nil))) pe_int (nomark _)))))
 (pss_one (ps_asg (pe_tup (pa_cons (pe_op op_powW pe_int pe_int) (pa_cons (pe_ix ix_tup (pe_ix ix_list (pv 2) (pe_un un_neg pe_int) (fun _ _ => rfl)) pe_int (fun _ _ => rfl)) pa_nil))) (pg_sub (pv 2) (pe_un un_neg pe_int) set_list)))
 pss_nil)
 (pss_one (ps_ret (pv 2))))))), ?_⟩
    refine ⟨Nat.zero_le _, fun f hf => ?_⟩
    have npf : p ≠ f := hp.ne hf
    have hp0 := hp.new (o := .lst []) hf
    -- key
    refine ⟨fun σ' H' => ∃ key : Int, σ' = [some (.ref p), some (.int (many : Int)), some (.ref f), some (.int key), none] ∧ But p H H' ∧ PotOk H' p (B + 3) ∧ H' f = some (.lst []) ∧ 0 ≤ key ∧ key ≤ 1000000, ?_, ?_⟩
    · refine ⟨_, rfl, p, 9, B, rfl, by decide, by decide, hp0, by omega, fun H1 v1 b1 hp1 l1 u1 => ?_⟩
      refine ⟨_, rfl, _, _, rfl, rfl, powW_of (a := 4) (by decide) (by decide) (by decide) (by decide), p, _, B + 1, rfl, by decide, by decide, hp1, by omega, fun H2 v2 b2 hp2 l2 u2 => ?_⟩
      refine ⟨by show 3 ≤ sizeLine; decide, fun q hq => ?_⟩
      have npq : p ≠ q := hp2.ne hq
      refine ⟨_, rfl, p, 3, B + 1 + 1, rfl, by decide, by decide, hp2.new hq, by omega, fun H3 v3 b3 hp3 l3 u3 => ?_⟩
      have hq3 : H3 q = some (.lst [.int 0, .int v1, .int v2]) := b3 _ _ npq.symm upd_same
      have hf2 : H2 f = some (.lst []) := b2 _ _ npf.symm (b1 _ _ npf.symm upd_same)
      have nfq : f ≠ q := ne_of_none hf2 hq
      have hf3 : H3 f = some (.lst []) := b3 _ _ npf.symm (by rw [upd_ne nfq]; exact hf2)
      have bt : But p H H3 := fun b o nb z => b3 b o nb (by
        have z2 := b2 b o nb (b1 b o nb (by rw [upd_ne (ne_of_none z hf)]; exact z))
        rw [upd_ne (ne_of_none z2 hq)]
        exact z2)
      have u2' : v2 < 1000000 := u2
      have pick : ∃ v : Int, atI [V.int 0, V.int v1, V.int v2] v3 = some (.int v) ∧ 0 ≤ v ∧ v ≤ 1000000 := by
        rcases (by omega : v3 = 0 ∨ v3 = 1 ∨ v3 = 2) with rfl | rfl | rfl
        · exact ⟨0, rfl, by omega, by omega⟩
        · exact ⟨v1, rfl, by omega, by omega⟩
        · exact ⟨v2, rfl, by omega, by omega⟩
      obtain ⟨v, hv, hv0, hv1⟩ := pick
      refine ⟨q, _, _, _, rfl, rfl, SqL.of hq3, hv, ?_⟩
      exact ⟨v, rfl, bt, hp3.le (by omega), hf3, hv0, hv1⟩
    rintro σ' H1 ⟨key, rfl, b1, hp1, hf1, k0, k1⟩
    refine ⟨_, rfl, _, rfl, by omega, by omega, ?_⟩
    rw [show ((many : Int)).toNat = many by omega]
    refine for_range (fun i σ H' => ∃ key v4, σ = [some (.ref p), some (.int (many : Int)), some (.ref f), some (.int key), v4] ∧ But p H H' ∧ PotOk H' p (B + 3 + 6 * i) ∧ 0 ≤ key ∧ key ≤ 1000000 + 41 * i ∧
      ∃ ps, PrsAt H' f ps ∧ ps.length = i ∧ PrsOk ps ∧ ∀ q ∈ ps, q.1 < key) ⟨key, _, rfl, b1, hp1.le (by omega), k0, by omega, [], ⟨[], hf1, .nil⟩, rfl, ⟨.nil, fun q hq => nomatch hq⟩, fun q hq => nomatch hq⟩ ?_ ?_
    · rintro i σ H2 hi ⟨key, v4, rfl, b2, hp2, k0, k1, ps, ⟨xs, hx, hpr⟩, hlen, hok, hlt⟩
      have hxl : xs.length = i := by rw [← hlen]; exact Paired.length hpr
      -- found.append
      refine ⟨fun σ' H' => σ' = [some (.ref p), some (.int (many : Int)), some (.ref f), some (.int key), some (.int (0 + (i : Nat)))] ∧ But p H H' ∧ PotOk H' p (B + 3 + 6 * i + 3) ∧
        ∃ val : Int, 0 ≤ val ∧ val ≤ 1000000000 ∧ PrsAt H' f (ps ++ [(key, val)]), ?_, ?_⟩
      · refine ⟨_, rfl, .inl ⟨rfl, _, SqL.of hx⟩, ?_⟩
        refine ⟨_, rfl, _, rfl, p, 5, _, rfl, by decide, by decide, hp2, by omega, fun H3 v1 b3 hp3 l1 u1 => ?_⟩
        refine ⟨_, rfl, _, _, rfl, rfl, powW_of (a := 4) (by decide) (by decide) (by decide) (by decide), _, _, rfl, rfl, p, _, _, rfl, by decide, by decide, hp3, by omega, fun H4 v2 b4 hp4 l2 u2 => ?_⟩
        refine ⟨by show 2 ≤ sizeLine; decide, fun q hq => ?_⟩
        have npq : p ≠ q := hp4.ne hq
        refine ⟨_, rfl, p, 4, _, rfl, by decide, by decide, hp4.new hq, by omega, fun H5 v3 b5 hp5 l3 u3 => ?_⟩
        refine ⟨rfl, .inr ⟨_, rfl, ?_⟩⟩
        have u2' : v2 < 1000000001 := u2
        obtain ⟨v, hq5, hv, hvv⟩ := pick2 (c := decide (V.int v3 = V.int 0)) (b5 _ _ npq.symm upd_same : H5 q = some (.lst [.int v1, .int v2]))
        refine ⟨q, _, _, _, rfl, rfl, SqL.of hq5, hv, by show 2 ≤ sizeLine; decide, fun t ht => ?_⟩
        have b23 : But p H2 H4 := b3.trans b4
        have b25 : But p H2 H5 := fun b o nb z => b5 b o nb (by
          have z4 := b23 b o nb z
          rw [upd_ne (ne_of_none z4 hq)]
          exact z4)
        have hx5 := b25 _ _ npf.symm hx
        have nft : f ≠ t := ne_of_none hx5 ht
        have nft' : ∀ uu, upd H5 t (.tup [.int key, .int v]) f = some uu → tpb uu = false := fun uu z => by
          rw [upd_ne nft, hx5] at z
          cases z
          rfl
        refine ⟨f, _, _, rfl, rfl, (by rw [upd_ne nft]; exact hx5), by rw [hxl]; exact Nat.lt_of_le_of_lt (by omega : i ≤ 40000) (by decide), ?_⟩
        have k6 : Keep H2 (upd (upd H5 t (.tup [.int key, .int v])) f (.lst (xs ++ [.ref t]))) := ((hp2.keep b25).trans (Keep.of (same_new ht))).trans ((Keep.refl _).upd nft')
        refine ⟨rfl, fun b o nb z => ?_, ?_, v, by omega, by omega, xs ++ [.ref t], upd_same, ?_⟩
        · have z5 := b25 b o nb (b2 b o nb z)
          rw [upd_ne (ne_of_none z hf), upd_ne (ne_of_none z5 ht)]
          exact z5
        · have h6 := hp5.new (o := .tup [.int key, .int v]) ht
          obtain ⟨x, y, c, h1, r⟩ := h6.le (by omega : _ ≤ B + 3 + 6 * i + 3)
          exact ⟨x, y, c, by rw [upd_ne npf]; exact h1, r⟩
        · refine paired_snoc ⟨t, rfl, by rw [upd_ne nft.symm, upd_same]⟩ (paired_imp (fun _ _ r => PrAt.keep k6 r) hpr)
      rintro σ' H3 ⟨rfl, b3, hp3, val, w0, w1, xs3, hx3, hpr3⟩
      -- key
      refine ⟨_, rfl, _, _, rfl, rfl, ?_⟩
      refine ⟨_, rfl, p, 3, _, rfl, by decide, by decide, hp3, by omega, fun H4 v1 b4 hp4 l1 u1 => ?_⟩
      refine ⟨_, rfl, p, 40, _, rfl, by decide, by decide, hp4, by omega, fun H5 v2 b5 hp5 l2 u2 => ?_⟩
      refine ⟨by show 2 ≤ sizeLine; decide, fun q hq => ?_⟩
      have npq : p ≠ q := hp5.ne hq
      refine ⟨_, rfl, p, 5, _, rfl, by decide, by decide, hp5.new hq, by omega, fun H6 v3 b6 hp6 l3 u3 => ?_⟩
      refine ⟨rfl, .inr ⟨_, rfl, ?_⟩⟩
      obtain ⟨v, hq6, hv, hvv⟩ := pick2 (c := decide (V.int v3 = V.int 0)) (b6 _ _ npq.symm upd_same : H6 q = some (.lst [.int v1, .int v2]))
      refine ⟨q, _, _, _, rfl, rfl, SqL.of hq6, hv, _, _, rfl, rfl, ?_⟩
      have b36 : But p H3 H6 := fun b o nb z => b6 b o nb (by
        have z4 := b5 b o nb (b4 b o nb z)
        rw [upd_ne (ne_of_none z4 hq)]
        exact z4)
      refine ⟨_, _, rfl, b3.trans b36, hp6.le (by omega), by omega, by omega, ps ++ [(key, val)], ⟨xs3, b36 _ _ npf.symm hx3, paired_imp (fun _ _ r => PrAt.keep (hp3.keep b36) r) hpr3⟩, by rw [List.length_append, hlen]; rfl, ⟨?_, fun z hz => ?_⟩, fun z hz => ?_⟩
      · refine List.pairwise_append.mpr ⟨hok.1, List.pairwise_singleton _ _, fun a ha b hb => ?_⟩
        obtain rfl := List.mem_singleton.mp hb
        exact hlt a ha
      · rcases List.mem_append.mp hz with hz | hz
        · exact hok.2 z hz
        · obtain rfl := List.mem_singleton.mp hz
          exact ⟨k0, by show key ≤ 1000000000; omega, w0, w1⟩
      · rcases List.mem_append.mp hz with hz | hz
        · have := hlt z hz
          omega
        · obtain rfl := List.mem_singleton.mp hz
          show key < key + 1 + v
          omega
    · rintro σ H2 ⟨key, v4, rfl, b2, hp2, k0, k1, ps, ⟨xs, hx, hpr⟩, hlen, hok, hlt⟩
      have hxl : xs.length = many := by rw [← hlen]; exact Paired.length hpr
      have fin : ∀ (H' : Hp) (ps' : List (Int × Int)), But p H H' → PotOk H' p (B + 3 + 6 * many + 1) → PrsAt H' f ps' → ps'.length = many → PrsOk ps' → PrsLow ps' → Q (.ref f) H' := fun H' ps' hb hpp ha hl ho hlow => kq H' f ps' hb (hpp.le (by omega)) hf ha hl ho hlow
      have low : PrsLow ps := fun j q hj _ => by
        have := hlt q (List.mem_of_getElem? hj)
        omega
      refine ⟨fun σ' H' => ∃ key v4, σ' = [some (.ref p), some (.int (many : Int)), some (.ref f), some (.int key), v4] ∧ ∃ ps', But p H H' ∧ PotOk H' p (B + 3 + 6 * many + 1) ∧ PrsAt H' f ps' ∧ ps'.length = many ∧ PrsOk ps' ∧ PrsLow ps', ?_, ?_⟩
      · refine ⟨_, rfl, _, _, rfl, rfl, _, rfl, ?_⟩
        refine ite2 (fun hc => ?_) (fun hc => ?_)
        · have hc' := of_decide_eq_true hc
          refine ⟨_, rfl, p, 9, _, rfl, by decide, by decide, hp2, by omega, fun H3 v b3 hp3 l3 u3 => ?_⟩
          refine ⟨rfl, _, rfl, ?_⟩
          have hx3 := b3 _ _ npf.symm hx
          have k3 := hp2.keep b3
          refine ite2 (fun hc2 => ?_) (fun hc2 => ?_)
          · -- the last one
            obtain ⟨c, hcm⟩ : ∃ c, many = c + 1 := ⟨many - 1, by omega⟩
            have hxc : xs[c]? = some (xs[c]'(by omega)) := List.getElem?_eq_getElem (by omega)
            obtain ⟨y, hy, t, et, ht⟩ := pget1 hpr hxc
            rw [et] at hxc
            have ht3 := k3 _ _ ht
            refine ⟨_, _, rfl, rfl, powW_of (a := 10) (by decide) (by decide) (by decide) (by decide), ?_⟩
            refine ⟨_, rfl, 1, rfl, f, _, _, _, rfl, rfl, SqL.of hx3, at_last (by omega : xs.length = c + 1) hxc, t, _, _, _, rfl, rfl, SqT.of ht3, rfl, by show 2 ≤ sizeLine; decide, fun u hu => ?_⟩
            have nfu : f ≠ u := ne_of_none hx3 hu
            have hxu : upd H3 u (.tup [.int (10 ^ 9), .int y.2]) f = some (.lst xs) := by rw [upd_ne nfu]; exact hx3
            have nft' : ∀ uu, upd H3 u (.tup [.int (10 ^ 9), .int y.2]) f = some uu → tpb uu = false := fun uu z => by
              rw [hxu] at z
              cases z
              rfl
            have ixl' : ixN xs.length (-1) = some c := by
              unfold ixN
              rw [if_neg (by decide), if_pos (by omega)]
              congr 1
              omega
            refine ⟨_, rfl, 1, rfl, f, _, _, c, rfl, rfl, hxu, ixl', ?_⟩
            have k6 : Keep H2 (upd (upd H3 u (.tup [.int (10 ^ 9), .int y.2])) f (.lst (xs.set c (.ref u)))) := (k3.trans (Keep.of (same_new hu))).trans ((Keep.refl _).upd nft')
            refine ⟨_, _, rfl, ps.set c (10 ^ 9, y.2), fun b o nb z => ?_, ?_, ⟨_, upd_same, ?_⟩, by rw [List.length_set]; exact hlen, ?_, fun j q hj hj2 => ?_⟩
            · have z3 := b3 b o nb (b2 b o nb z)
              rw [upd_ne (ne_of_none z hf), upd_ne (ne_of_none z3 hu)]
              exact z3
            · obtain ⟨x, y, c, h1, r⟩ := hp3
              exact ⟨x, y, c, by rw [upd_ne npf, upd_ne (ne_of_none h1 hu)]; exact h1, r⟩
            · exact paired_set (paired_imp (fun _ _ r => PrAt.keep k6 r) hpr) ⟨u, rfl, by rw [upd_ne nfu.symm, upd_same]; rfl⟩
            · have hb : ∀ q ∈ ps, q.1 < (10 : Int) ^ 9 := fun z hz => by
                have z1 := hlt z hz
                have z2 : (10 : Int) ^ 9 = 1000000000 := by decide
                rw [z2]
                omega
              exact prsOk_set hok (by omega) hy hb
            · rw [List.length_set] at hj2
              rw [List.getElem?_set_ne (by omega)] at hj
              exact low j q hj hj2
          · exact ⟨_, _, rfl, ps, b2.trans b3, hp3, ⟨xs, hx3, paired_imp (fun _ _ r => PrAt.keep k3 r) hpr⟩, hlen, hok, low⟩
        · exact ⟨_, _, rfl, ps, b2, hp2.le (by omega), ⟨xs, hx, hpr⟩, hlen, hok, low⟩
      · rintro σ' H3 ⟨key, v4, rfl, ps', b3, hp3, ha3, hl3, ho3, low3⟩
        exact ⟨_, rfl, fin H3 ps' b3 hp3 ha3 hl3 ho3 low3⟩
end
end K29

namespace K29
open PySem PySem.Spec PyProof.Rows L2 RZ HX TR
theorem cut_to {xs : List V} {n : Nat} (h : n ≤ xs.length) : cutV xs none (some (n : Int)) = xs.take n := by
  have e1 : HT.sIx xs.length 0 none = 0 := rfl
  have e2 : HT.sIx xs.length xs.length (some (n : Int)) = n := by rw [HT.sIx_nat]; omega
  unfold cutV
  rw [e1, e2]
  rfl
theorem cut_from {xs : List V} {n : Nat} (h : n ≤ xs.length) : cutV xs (some (n : Int)) none = xs.drop n := by
  have e1 : HT.sIx xs.length 0 (some (n : Int)) = n := by rw [HT.sIx_nat]; omega
  have e2 : HT.sIx xs.length xs.length none = xs.length := rfl
  unfold cutV
  rw [e1, e2, List.take_of_length_le (by rw [List.length_drop]; omega)]
theorem seq0 (n : Nat) : seqIndex? 0 (n + 1) = some 0 := by
  show (if (decide ((0 : Int) ≤ 0) && decide ((0 : Int) < ((n + 1 : Nat) : Int))) = true then some (0 : Int).toNat else none) = some 0
  rw [if_pos (by simp)]
  rfl
/-- a tuple just made, of which one knows that it has no dict -/
def FzT (H : Hp) (a : Addr) (xs : List V) : Prop := ∃ o : Obj, H a = some (.frz o (.tup xs)) ∧ o.dict = none
theorem FzT.keep {H H' : Hp} (k : Keep H H') {a : Addr} {xs : List V} (h : FzT H a xs) : FzT H' a xs := by
  obtain ⟨o, h1, h2⟩ := h
  exact ⟨o, k.frz h1, h2⟩
theorem FzT.same {H H' : Hp} (k : Same H H') {a : Addr} {xs : List V} (h : FzT H a xs) : FzT H' a xs := h.keep (Keep.of k)
theorem FzT.sq {K : PySem.W.Frag} {H : Hp} {a : Addr} {xs : List V} (h : FzT H a xs) : SqT K H a xs := by
  obtain ⟨o, h1, _⟩ := h
  exact .inl (.inr ⟨o, h1⟩)
theorem FzT.ty {K : PySem.W.Frag} {H : Hp} {a : Addr} {xs : List V} (h : FzT H a xs) : TyX K H (.ref a) (.type "tuple") := by
  obtain ⟨o, h1, _⟩ := h
  exact .fTuple h1
def PrT (H : Hp) (a : Addr) (ps : List (Int × Int)) : Prop := ∃ xs : List V, FzT H a xs ∧ Paired (PrAt H) xs ps
theorem PrT.keep {H H' : Hp} (k : Keep H H') {a : Addr} {ps : List (Int × Int)} (h : PrT H a ps) : PrT H' a ps := by
  obtain ⟨xs, h1, h2⟩ := h
  exact ⟨xs, h1.keep k, paired_imp (fun _ _ r => PrAt.keep k r) h2⟩
def PgAt (H : Hp) (v : V) : Pg → Prop
  | .leaf ps nx => ∃ t q, v = .ref t ∧ H t = some (.tup [.str "leaf", .ref q, .int nx]) ∧ PrT H q ps
  | .node ks kids => ∃ t q1 q2, v = .ref t ∧ H t = some (.tup [.str "node", .ref q1, .ref q2]) ∧ H q1 = some (.tup (ks.map V.int)) ∧ FzT H q2 (kids.map V.int)
theorem PgAt.keep {H H' : Hp} (k : Keep H H') {v : V} : ∀ {g : Pg}, PgAt H v g → PgAt H' v g
  | .leaf _ _, ⟨t, q, e, h1, h2⟩ => ⟨t, q, e, k _ _ h1, h2.keep k⟩
  | .node _ _, ⟨t, q1, q2, e, h1, h2, h3⟩ => ⟨t, q1, q2, e, k _ _ h1, k _ _ h2, h3.keep k⟩
def EnAt (H : Hp) (e : Key × V) (q : Int × Pg) : Prop := e.1 = .inl q.1 ∧ PgAt H e.2 q.2
def DctAt (H : Hp) (d : Addr) (D : List (Int × Pg)) : Prop := ∃ es : List (Key × V), H d = some (.dK es) ∧ Paired (EnAt H) es D
theorem valV_of {H : Hp} {k : Int} : ∀ {es : List (Key × V)} {D : List (Int × Pg)}, Paired (EnAt H) es D → (lkp D k = none ∧ valV es (.inl k) = none) ∨ ∃ g v, lkp D k = some g ∧ valV es (.inl k) = some v ∧ PgAt H v g
  | _, _, .nil => .inl ⟨rfl, rfl⟩
  | e :: es, q :: D, .cons r rs => by
    obtain ⟨r1, r2⟩ := r
    by_cases c : q.1 = k
    · refine .inr ⟨q.2, e.2, ?_, ?_, r2⟩
      · unfold lkp
        rw [List.find?_cons_of_pos (by exact decide_eq_true c)]
        rfl
      · unfold valV
        rw [List.find?_cons_of_pos (by rw [r1, c]; exact decide_eq_true rfl)]
        rfl
    · have c1 : lkp (q :: D) k = lkp D k := by
        unfold lkp
        rw [List.find?_cons_of_neg (by simpa using c)]
      have c2 : valV (e :: es) (.inl k) = valV es (.inl k) := by
        unfold valV
        rw [List.find?_cons_of_neg (by rw [r1]; simpa using c)]
      rw [c1, c2]
      exact valV_of rs
theorem DctAt.put {H : Hp} {es : List (Key × V)} {D : List (Int × Pg)} {k : Int} {v : V} {g : Pg} (h : Paired (EnAt H) es D) (hn : lkp D k = none) (hv : PgAt H v g) : Paired (EnAt H) (putK es (.inl k) v) (D ++ [(k, g)]) := by
  have e : putK es (.inl k) v = es ++ [(.inl k, v)] := by
    unfold putK
    rw [if_neg]
    intro z
    obtain ⟨x, hx, hx2⟩ := List.any_eq_true.mp z
    obtain ⟨i, hi⟩ := List.getElem?_of_mem hx
    obtain ⟨q, hq, r1, _⟩ := pget1 h hi
    have hx3 := of_decide_eq_true hx2
    rw [r1] at hx3
    exact lkp_ne hn q (List.mem_of_getElem? hq) (by injection hx3)
  rw [e]
  exact paired_snoc ⟨rfl, hv⟩ h
theorem pr_ne {H : Hp} {a q : Addr} {xs : List V} {ps : List (Int × Int)} {is : List Int} (h : H a = some (.lst xs)) (hp : Paired (PrAt H) xs ps) (hq : H q = some (.lst (is.map V.int))) (ne : ps ≠ [] ∨ is ≠ []) : a ≠ q := fun e => by
  rw [e, hq] at h
  have e2 : xs = is.map V.int := by injection h with h; injection h with h; exact h.symm
  subst e2
  cases is with
  | nil =>
    cases hp
    rcases ne with ne | ne <;> exact ne rfl
  | cons i is =>
    cases hp with
    | cons r rs =>
      obtain ⟨t, e, _⟩ := r
      cases e
/-- all but four stay -/
def But4 (p r n d : Addr) (H H' : Hp) : Prop := ∀ b o, b ≠ p → b ≠ r → b ≠ n → b ≠ d → H b = some o → H' b = some o
theorem But4.refl (p r n d : Addr) (H : Hp) : But4 p r n d H H := fun _ _ _ _ _ _ e => e
theorem But4.trans {p r n d : Addr} {H H1 H2 : Hp} (a : But4 p r n d H H1) (b : But4 p r n d H1 H2) : But4 p r n d H H2 := fun c o h1 h2 h3 h4 e => b c o h1 h2 h3 h4 (a c o h1 h2 h3 h4 e)
theorem But4.same {p r n d : Addr} {H H1 H2 : Hp} (a : But4 p r n d H H1) (b : Same H1 H2) : But4 p r n d H H2 := fun c o h1 h2 h3 h4 e => b c o (a c o h1 h2 h3 h4 e)
theorem But4.new {p r n d q : Addr} {H H1 : Hp} {o : HO} (a : But4 p r n d H H1) (h : H1 q = none) : But4 p r n d H (upd H1 q o) := a.same (same_new h)
theorem But4.put {p r n d q : Addr} {H H1 : Hp} {o : HO} (a : But4 p r n d H H1) (h : q = p ∨ q = r ∨ q = n ∨ q = d) : But4 p r n d H (upd H1 q o) := fun c o h1 h2 h3 h4 e => by
  rw [upd_ne (by rintro rfl; rcases h with h | h | h | h <;> contradiction)]
  exact a c o h1 h2 h3 h4 e
theorem PotOk.put {H : Hp} {p q : Addr} {B : Int} {o : HO} (h : PotOk H p B) (e : p ≠ q) : PotOk (upd H q o) p B := by
  obtain ⟨x, y, c, h1, r⟩ := h
  exact ⟨x, y, c, by rw [upd_ne e]; exact h1, r⟩
theorem four {H : Hp} {p r n d q : Addr} {B : Int} {u : HO} {v w : HO} (hp : PotOk H p B) (h1 : H r = some u) (h2 : H n = some v) (h3 : H d = some w) (hq : H q = none) : q ≠ p ∧ q ≠ r ∧ q ≠ n ∧ q ≠ d := by
  obtain ⟨x, y, c, h0, _⟩ := hp
  exact ⟨(ne_of_none h0 hq).symm, (ne_of_none h1 hq).symm, (ne_of_none h2 hq).symm, (ne_of_none h3 hq).symm⟩
structure Dif (p r n d : Addr) : Prop where
  pr : p ≠ r
  pn : p ≠ n
  pd : p ≠ d
  rn : r ≠ n
  rd : r ≠ d
  nd : n ≠ d
/-- what is left: pairs, numbers, the last key -/
def RestAt (H : Hp) (p r n d : Addr) (ps : List (Int × Int)) (ns : List Int) (last : Int) : Prop :=
  ∃ a, H r = some (.lst [.ref a, .ref n, .int last]) ∧ PrsAt H a ps ∧ H n = some (.lst (ns.map V.int)) ∧ a ≠ p ∧ a ≠ r ∧ a ≠ n ∧ a ≠ d
/-- tuples stay where only these four change, none of which is one -/
theorem But4.keep {p r n d : Addr} {H H' : Hp} {B : Int} {ps : List (Int × Int)} {ns : List Int} {last : Int} {D : List (Int × Pg)} (b : But4 p r n d H H') (hp : PotOk H p B) (hr : RestAt H p r n d ps ns last) (hd : DctAt H d D) : Keep H H' := ⟨fun c u tu h => by
  obtain ⟨a, h1, _, h2, _⟩ := hr
  obtain ⟨es, h3, _⟩ := hd
  refine b c _ (tpb_no hp.noTup tu h) (fun z => ?_) (fun z => ?_) (fun z => ?_) h <;> subst z
  · rw [h1] at h; cases h; cases tu
  · rw [h2] at h; cases h; cases tu
  · rw [h3] at h; cases h; cases tu⟩
section
variable {P : Program} {w : World} {K : PySem.W.Frag} {mg : Str → Option Value} {base : Heap}
structure LaidIn (H : Hp) (l room : Nat) (s : Sh l) (p r n d : Addr) (ps : List (Int × Int)) (ns : List Int) (D : List (Int × Pg)) (last B : Int) : Prop where
  r3 : 3 ≤ room
  r8 : room ≤ 8
  pot : PotOk H p B
  bound : B + (pgsS l s : Int) < 2 ^ 39
  rest : RestAt H p r n d ps ns last
  dct : DctAt H d D
  dif : Dif p r n d
  ok : PrsOk ps
  above : Above ps last
  last0 : -1 ≤ last
  last9 : last ≤ 1000000000
  many : cntS l s ≤ ps.length
  numbers : pgsS l s ≤ ns.length
  nodup : ns.Nodup
  fresh : ∀ k ∈ ns, lkp D k = none
  few : ps.length ≤ 100000
  few2 : D.length + ns.length ≤ 100000
def sp_law_laid (N : Nat) : Sp := fun vs H Q _ => ∃ (l room : Nat) (top : Bool) (v : V) (s : Sh l) (p r n d : Addr) (ps : List (Int × Int)) (ns : List Int) (D : List (Int × Pg)) (last B : Int), vs = [.ref p, v, .ref r, .ref d] ∧ l < N ∧ WfSh room l top s ∧ ShAt H l v s ∧
  LaidIn H l room s p r n d ps ns D last B ∧
  ∀ (H' : Hp) (t : Tr l) (D' : List (Int × Pg)) (last' : Int), But4 p r n d H H' → PotOk H' p (B + (pgsS l s : Int) - 1) → RestAt H' p r n d (ps.drop (cntS l s)) (ns.drop (pgsS l s)) last' → DctAt H' d (D ++ D') → Gen l s t ps ns D D' last last' → Q (.int (num l t)) H'
theorem ok_law_laid (T : TX K mg) : ∀ N : Nat, FnOk P w K mg base CX0 (N + 2) (He.ga K "_law_laid") T.fd_law_laid ["pot", "shape", "rest", "pages"] (sp_law_laid N) := by
  intro N
  induction N with
  | zero =>
    refine T.F_law_laid.ok sc_law_laid (fun vs H Q E h => ?_) (fun cdv A outer st H vs Q E hr h => ?_)
    · obtain ⟨l, room, top, v, s, p, r, n, d, ps, ns, D, last, B, rfl, _⟩ := h
      rfl
    · obtain ⟨l, room, top, v, s, p, r, n, d, ps, ns, D, last, B, rfl, h1, _⟩ := h
      omega
  | succ N ih =>
    have G_law_laid := ih
    have b_law_laid := b_law_laid T
    have G_law_take : FnOk P w K mg base CX0 1 (He.ga K "_law_take") T.fd_law_take ["pot", "many"] sp_law_take := ok_law_take T
    have b_law_take := b_law_take T
    refine T.F_law_laid.ok sc_law_laid (fun vs H Q E h => ?_) (fun cdv A outer st H vs Q E hr h => ?_)
    · obtain ⟨l, room, top, v, s, p, r, n, d, ps, ns, D, last, B, rfl, _⟩ := h
      rfl
    · obtain ⟨l, room, top, v, s, p, r, n, d, ps, ns, D, last, B, rfl, hl, hwf, hs, I, kq⟩ := h
      refine ⟨_, PSs.nox (pss_cons (ps_set (i := 4) sc_law_laid.nd rfl (Or.inl rfl) (pe_bm PySem.F.plainAttrs_list PySem.F.slot_list_pop PySem.F.type_list_pop mt_popAt (pe_ix ix_list (pv 2) pe_int (fun _ _ => rfl)) (pa_cons pe_int pa_nil)))
 (pss_cons (ps_if (pt_val (pe_callB call_isi rfl T.n_isinstance (by decide +kernel) (pa_cons (pv 1) (pa_cons (pe_ty "int" T.n_int (by decide +kernel)) pa_nil))))
 (pss_cons (ps_set (i := 5) sc_law_laid.nd rfl (Or.inl rfl) (pe_slice sl_list (pe_ix ix_list (pv 2) pe_int (fun _ _ => rfl)) po_none (po_some (pv 1))))
 (pss_cons (ps_asg (pe_slice sl_list (pe_ix ix_list (pv 2) pe_int (fun _ _ => rfl)) (po_some (pv 1)) po_none) (pg_sub (pv 2) pe_int set_list))
 (pss_cons (ps_dput (hu_of hr) (pv 3) (pv 4) (pe_tup (pa_cons pe_str (pa_cons (pe_callTy RU.call_tupF rfl T.n_tuple (by decide +kernel) (pa_cons (pv 5) pa_nil)) (pa_cons pe_int pa_nil)))) rfl)
 (pss_cons (ps_asg (pe_ix ix_list (pe_op op_cat (pe_lst (pa_cons (pe_ix ix_list (pv 2) pe_int (fun _ _ => rfl)) pa_nil)) (pe_lc (own := [("pair", 9)]) (g := gName 9) (tt := tYes) rfl sc_law_laid.nd (pi_list (pv 5)) (blkOk_by (own := [("pair", 9)]) (N := ["pot", "shape", "rest", "pages", "number", "pairs", "kids", "keys", "kid", "pair"]) (sc := defScope s_law_laid) (by decide +kernel)) (fun _ _ _ _ _ => (pg_name (i := 9) sc_law_laid.nd rfl (Or.inl rfl))) (fun _ _ _ _ _ => pts_nil) (fun _ _ _ _ _ => (pe_ix (ixt K) (pv 9) pe_int (fun _ _ => rfl))))) (pe_un un_neg pe_int) (fun _ _ => rfl)) (pg_sub (pv 2) pe_int set_list))
 (pss_one (ps_ret (pv 4)))))))
 pss_nil)
 (pss_cons (ps_set (i := 6) sc_law_laid.nd rfl (Or.inl rfl) (pe_lst pa_nil))
 (pss_cons (ps_set (i := 7) sc_law_laid.nd rfl (Or.inl rfl) (pe_lst pa_nil))
 (pss_cons (ps_for PassesOwn.never rfl (pi_tup (pv 1)) (pg_name (i := 8) sc_law_laid.nd rfl (Or.inl rfl))
 (Evl.pss_cut (ps_if (pt_cmpR (op_neD hr.units) (pv 6) (pe_lst pa_nil) (nomark _))
 (pss_one (ps_expr (pe_bm PySem.F.plainAttrs_list PySem.F.slot_list_append PySem.F.type_list_append mt_append (pv 7) (pa_cons (pe_op op_add (pe_op op_add (pe_ix ix_list (pv 2) pe_int (fun _ _ => rfl)) pe_int) (pe_call G_law_take (hr.mono (by first | decide | omega)) rfl T.g_law_take T.F_law_take.kp b_law_take .nil pass0 (pa_cons (pv 0) (pa_cons (pe_op op_sub (pe_ix ix_tup (pe_ix ix_list (pe_ix ix_list (pv 2) pe_int (fun _ _ => rfl)) pe_int (fun _ _ => rfl)) pe_int (fun _ _ => rfl)) (pe_ix ix_list (pv 2) pe_int (fun _ _ => rfl))) pa_nil)))) pa_nil))))
 pss_nil)
 (pss_one (ps_expr (pe_bm PySem.F.plainAttrs_list PySem.F.slot_list_append PySem.F.type_list_append mt_append (pv 6) (pa_cons (pe_call G_law_laid (hr.mono (by first | decide | omega)) rfl T.g_law_laid T.F_law_laid.kp b_law_laid .nil pass0 (pa_cons (pv 0) (pa_cons (pv 8) (pa_cons (pv 2) (pa_cons (pv 3) pa_nil))))) pa_nil))))))
 (pss_cons (ps_dput (hu_of hr) (pv 3) (pv 4) (pe_tup (pa_cons pe_str (pa_cons (pe_callTy call_tuple_of rfl T.n_tuple (by decide +kernel) (pa_cons (pv 7) pa_nil)) (pa_cons (pe_callTy RU.call_tupF rfl T.n_tuple (by decide +kernel) (pa_cons (pv 6) pa_nil)) pa_nil)))) rfl)
 (pss_one (ps_ret (pv 4))))))))), ?_⟩
      obtain ⟨a, hr0, ⟨xs, hx, hpx⟩, hn0, nap, nar, nan, nad⟩ := I.rest
      obtain ⟨es, hd0, hde⟩ := I.dct
      obtain ⟨z, ns1, hns⟩ : ∃ z ns1, ns = z :: ns1 := by
        have h1 := I.numbers
        have h2 : 1 ≤ pgsS l s := by cases l <;> (unfold pgsS; omega)
        cases ns with
        | nil => simp only [List.length_nil] at h1; omega
        | cons z ns1 => exact ⟨z, ns1, rfl⟩
      subst hns
      refine ⟨_, rfl, r, _, _, _, rfl, rfl, SqL.of hr0, rfl, ?_⟩
      refine ⟨.inl ⟨rfl, _, SqL.of hn0⟩, n, _, 0, 0, V.int z, rfl, rfl, hn0, by decide, by decide, seq0 _, rfl, ?_⟩
      have npr := I.dif.pr
      have npn := I.dif.pn
      have npd := I.dif.pd
      have nrn := I.dif.rn
      have nrd := I.dif.rd
      have nnd := I.dif.nd
      have hn1 : upd H n (.lst (List.eraseIdx ((z :: ns1).map V.int) 0)) n = some (.lst (ns1.map V.int)) := upd_same
      have b1 : But4 p r n d H (upd H n (.lst (List.eraseIdx ((z :: ns1).map V.int) 0))) := (But4.refl p r n d H).put (.inr (.inr (.inl rfl)))
      have hr1 : upd H n (.lst (List.eraseIdx ((z :: ns1).map V.int) 0)) r = some (.lst [.ref a, .ref n, .int last]) := by rw [upd_ne nrn]; exact hr0
      have hx1 : upd H n (.lst (List.eraseIdx ((z :: ns1).map V.int) 0)) a = some (.lst xs) := by rw [upd_ne nan]; exact hx
      have hd1 : upd H n (.lst (List.eraseIdx ((z :: ns1).map V.int) 0)) d = some (.dK es) := by rw [upd_ne nnd.symm]; exact hd0
      have hp1 : PotOk (upd H n (.lst (List.eraseIdx ((z :: ns1).map V.int) 0))) p B := I.pot.put npn
      generalize upd H n (.lst (List.eraseIdx ((z :: ns1).map V.int) 0)) = H1 at hn1 b1 hr1 hx1 hd1 hp1
      have k1 : Keep H H1 := b1.keep I.pot I.rest I.dct
      have hxl : xs.length = ps.length := Paired.length hpx
      have hpx1 := paired_imp (fun _ _ r => PrAt.keep k1 r) hpx
      have hde1 := paired_imp (fun _ _ (r : EnAt H _ _) => (⟨r.1, r.2.keep k1⟩ : EnAt H1 _ _)) hde
      cases l with
      | zero =>
        obtain rfl : v = .int (s.n : Int) := hs
        have hc : s.n ≤ ps.length := I.many
        refine ⟨_, rfl, _, _, .type "int", .type "int", true, rfl, .ty "int", .base (.int _), kit_ty (by decide +kernel), true, rfl, ?_⟩
        refine iteT ?_
        refine ⟨_, rfl, r, _, _, _, rfl, rfl, SqL.of hr1, rfl, _, rfl, _, rfl, a, _, rfl, SqL.of hx1, fun q1 hq1 => ?_⟩
        rw [cut_to (by omega)]
        have nq {q : Addr} {H' : Hp} {b : Addr} {o : HO} (e : H' b = some o) (h : H' q = none) : b ≠ q := ne_of_none e h
        have s2 : Same H1 (upd H1 q1 (.lst (xs.take s.n))) := same_new hq1
        have hq1' : upd H1 q1 (.lst (xs.take s.n)) q1 = some (.lst (xs.take s.n)) := upd_same
        generalize upd H1 q1 (.lst (xs.take s.n)) = H2 at s2 hq1'
        have nq1 := four hp1 hr1 hn1 hd1 hq1
        refine ⟨_, rfl, r, _, _, _, rfl, rfl, SqL.of (s2 _ _ hr1), rfl, _, rfl, _, rfl, a, _, rfl, SqL.of (s2 _ _ hx1), fun q2 hq2 => ?_⟩
        rw [cut_from (by omega)]
        have nq2 := four (hp1.same s2) (s2 _ _ hr1) (s2 _ _ hn1) (s2 _ _ hd1) hq2
        have s3 : Same H2 (upd H2 q2 (.lst (xs.drop s.n))) := same_new hq2
        have hq2' : upd H2 q2 (.lst (xs.drop s.n)) q2 = some (.lst (xs.drop s.n)) := upd_same
        generalize upd H2 q2 (.lst (xs.drop s.n)) = H3 at s3 hq2'
        have hr3 := s3 _ _ (s2 _ _ hr1)
        refine ⟨_, rfl, r, _, _, 0, rfl, rfl, hr3, rfl, ?_⟩
        have s23 := s2.trans s3
        have b4 : But4 p r n d H (upd H3 r (.lst ([V.ref a, .ref n, .int last].set 0 (.ref q2)))) := (b1.same s23).put (.inr (.inl rfl))
        have hr4 : upd H3 r (.lst ([V.ref a, .ref n, .int last].set 0 (.ref q2))) r = some (.lst [.ref q2, .ref n, .int last]) := upd_same
        have hd4 : upd H3 r (.lst ([V.ref a, .ref n, .int last].set 0 (.ref q2))) d = some (.dK es) := by rw [upd_ne nrd.symm]; exact s23 _ _ hd1
        have hn4 : upd H3 r (.lst ([V.ref a, .ref n, .int last].set 0 (.ref q2))) n = some (.lst (ns1.map V.int)) := by rw [upd_ne nrn.symm]; exact s23 _ _ hn1
        have hq14 : upd H3 r (.lst ([V.ref a, .ref n, .int last].set 0 (.ref q2))) q1 = some (.lst (xs.take s.n)) := by rw [upd_ne nq1.2.1]; exact s3 _ _ hq1'
        have hq24 : upd H3 r (.lst ([V.ref a, .ref n, .int last].set 0 (.ref q2))) q2 = some (.lst (xs.drop s.n)) := by rw [upd_ne nq2.2.1]; exact hq2'
        have hp4 : PotOk (upd H3 r (.lst ([V.ref a, .ref n, .int last].set 0 (.ref q2)))) p B := (hp1.same s23).put npr
        generalize upd H3 r (.lst ([V.ref a, .ref n, .int last].set 0 (.ref q2))) = H4 at b4 hr4 hd4 hn4 hq14 hq24 hp4
        -- the page
        refine ⟨_, rfl, q1, _, rfl, SqL.of hq14, fun q3 o3 hq3 ho3 => ⟨by show 3 ≤ sizeLine; decide, fun t ht => ?_⟩⟩
        have nq3 := four hp4 hr4 hn4 hd4 hq3
        have s5 : Same H4 (upd (upd H4 q3 (.frz o3 (.tup (xs.take s.n)))) t (.tup [.str "leaf", .ref q3, .int 0])) := (same_new hq3).trans (same_new ht)
        have ht5 : upd (upd H4 q3 (.frz o3 (.tup (xs.take s.n)))) t (.tup [.str "leaf", .ref q3, .int 0]) t = some (.tup [.str "leaf", .ref q3, .int 0]) := upd_same
        have hq35 : upd (upd H4 q3 (.frz o3 (.tup (xs.take s.n)))) t (.tup [.str "leaf", .ref q3, .int 0]) q3 = some (.frz o3 (.tup (xs.take s.n))) := by
          rw [upd_ne (ne_of_none (upd_same : upd H4 q3 (.frz o3 (.tup (xs.take s.n))) q3 = _) ht)]
          exact upd_same
        generalize upd (upd H4 q3 (.frz o3 (.tup (xs.take s.n)))) t (.tup [.str "leaf", .ref q3, .int 0]) = H5 at s5 ht5 hq35
        have hdn : D.length = es.length := (Paired.length hde).symm
        refine ⟨_, rfl, _, rfl, d, _, rfl, DPut.k (k := .inl z) (s5 _ _ hd4) ?_, ?_⟩
        · have := I.few2
          exact Nat.lt_of_le_of_lt (by omega : es.length ≤ 100000) (by decide)
        have hp5 := hp4.same s5
        have b6 : But4 p r n d H (upd H5 d (.dK (putK es (.inl z) (.ref t)))) := (b4.same s5).put (.inr (.inr (.inr rfl)))
        have k6 : Keep H (upd H5 d (.dK (putK es (.inl z) (.ref t)))) := b6.keep I.pot I.rest I.dct
        have ntd : t ≠ d := fun e => by rw [e, s5 _ _ hd4] at ht5; cases ht5
        have nq3d : q3 ≠ d := nq3.2.2.2
        have hd6 : upd H5 d (.dK (putK es (.inl z) (.ref t))) d = some (.dK (putK es (.inl z) (.ref t))) := upd_same
        have ht6 : upd H5 d (.dK (putK es (.inl z) (.ref t))) t = some (.tup [.str "leaf", .ref q3, .int 0]) := by rw [upd_ne ntd]; exact ht5
        have hq36 : upd H5 d (.dK (putK es (.inl z) (.ref t))) q3 = some (.frz o3 (.tup (xs.take s.n))) := by rw [upd_ne nq3d]; exact hq35
        have hr6 : upd H5 d (.dK (putK es (.inl z) (.ref t))) r = some (.lst [.ref q2, .ref n, .int last]) := by rw [upd_ne nrd]; exact s5 _ _ hr4
        have hn6 : upd H5 d (.dK (putK es (.inl z) (.ref t))) n = some (.lst (ns1.map V.int)) := by rw [upd_ne nnd]; exact s5 _ _ hn4
        have hq16 : upd H5 d (.dK (putK es (.inl z) (.ref t))) q1 = some (.lst (xs.take s.n)) := by rw [upd_ne nq1.2.2.2]; exact s5 _ _ hq14
        have hq26 : upd H5 d (.dK (putK es (.inl z) (.ref t))) q2 = some (.lst (xs.drop s.n)) := by rw [upd_ne nq2.2.2.2]; exact s5 _ _ hq24
        have hp6 : PotOk (upd H5 d (.dK (putK es (.inl z) (.ref t)))) p B := hp5.put npd
        generalize upd H5 d (.dK (putK es (.inl z) (.ref t))) = H6 at b6 k6 hd6 ht6 hq36 hr6 hn6 hq16 hq26 hp6
        -- the last key
        refine ⟨_, rfl, r, _, _, _, rfl, rfl, SqL.of hr6, rfl, by show 1 ≤ sizeLine; decide, fun q4 hq4 => ?_⟩
        refine ⟨_, rfl, q1, rfl, ⟨_, SqL.of (same_new hq4 _ _ hq16)⟩, fun G hG => ?_⟩
        have hpx6 := paired_imp (fun _ _ r => PrAt.keep k6 r) hpx
        refine lc_it walk_list (fun i H' => Same (upd H6 q4 (.lst [.int last])) H' ∧ H' G = some (.lst (((ps.take s.n).take i).map fun q => V.int q.1))) ⟨same_new hG, upd_same⟩ (fun i H' _ z => SqL.of (z.1 _ _ (same_new hq4 _ _ hq16))) ?_ ?_
        · rintro i x H7 H8 hi ⟨s7, hG7⟩ ⟨rfl, hx7⟩
          obtain ⟨y, hy, t1, rfl, ht1⟩ := pget1 (paired_take s.n hpx6) hx7
          have ht1' := s7 _ _ (same_new hq4 _ _ ht1)
          refine ⟨rfl, ?_⟩
          dsimp only [tYes]
          rw [if_pos rfl]
          refine ⟨_, rfl, t1, _, _, _, rfl, rfl, SqT.of ht1', rfl, _, hG7, ?_, same_upd s7 hG, ?_⟩
          · rw [List.length_map, List.length_take, List.length_take]
            have := I.few
            exact Nat.lt_of_le_of_lt (by omega : _ ≤ 100000) (by decide)
          · rw [upd_same, take_more hy, List.map_append]
            rfl
        · rintro H7 ⟨s7, hG7⟩
          have hlt : (xs.take s.n).length = s.n := by rw [List.length_take]; omega
          rw [hlt, List.take_take, Nat.min_self] at hG7
          obtain ⟨z', hz1, hz2, hz3, hz4⟩ := last_pick last (ps.take s.n) (I.ok.1.sublist (List.take_sublist _ _)) (fun q hq => I.above q (List.mem_of_mem_take hq))
          refine ⟨q4, G, _, _, rfl, rfl, s7 _ _ upd_same, hG7, ?_, fun q5 hq5 => ?_⟩
          · rw [List.length_map, List.length_take]
            have := I.few
            exact Nat.le_trans (by show 1 + _ ≤ 100001; omega) (by decide)
          refine ⟨1, rfl, q5, _, _, _, rfl, rfl, SqL.of upd_same, hz1, ?_⟩
          have s67 : Same H6 (upd H7 q5 (.lst ([V.int last] ++ (ps.take s.n).map fun q => V.int q.1))) := ((same_new hq4).trans s7).trans (same_new hq5)
          generalize upd H7 q5 (.lst ([V.int last] ++ (ps.take s.n).map fun q => V.int q.1)) = H8 at s67
          refine ⟨_, rfl, r, _, _, 2, rfl, rfl, s67 _ _ hr6, rfl, ?_⟩
          have b9 : But4 p r n d H (upd H8 r (.lst ([V.ref q2, .ref n, .int last].set 2 (.int z')))) := (b6.same s67).put (.inr (.inl rfl))
          have k9 := b9.keep I.pot I.rest I.dct
          have k69 : Keep H6 (upd H8 r (.lst ([V.ref q2, .ref n, .int last].set 2 (.int z')))) := (Keep.of s67).trans ((Keep.refl H8).upd fun ys e => by rw [s67 _ _ hr6] at e; cases e; rfl)
          have below : Below (ps.take s.n) z' := hz2
          have above : Above (ps.drop s.n) z' := fun q hq => by
            have hpw := I.ok.1
            rw [← List.take_append_drop s.n ps] at hpw
            have hx := (List.pairwise_append.mp hpw).2.2
            rcases hz4 with e | ⟨y, hy, e⟩
            · rw [e]
              exact I.above q (List.mem_of_mem_drop hq)
            · rw [e]
              exact hx y hy q hq
          refine ⟨_, rfl, kq _ (lfT z (ps.take s.n)) [(z, .leaf (ps.take s.n) 0)] z' b9 ?_ ?_ ?_ ?_⟩
          · refine ((hp6.same s67).put npr).le ?_
            show B ≤ B + ((1 : Nat) : Int) - 1
            omega
          · refine ⟨q2, upd_same, ⟨xs.drop s.n, ?_, ?_⟩, ?_, nq2⟩
            · rw [upd_ne nq2.2.1]
              exact s67 _ _ hq26
            · exact paired_drop s.n (paired_imp (fun _ _ r => PrAt.keep k9 r) hpx)
            · rw [upd_ne nrn.symm]
              exact s67 _ _ hn6
          · refine ⟨_, by rw [upd_ne nrd.symm]; exact s67 _ _ hd6, ?_⟩
            refine DctAt.put (paired_imp (fun _ _ (r : EnAt H _ _) => (⟨r.1, r.2.keep k9⟩ : EnAt _ _ _)) hde) (I.fresh z (List.mem_cons_self ..)) ?_
            exact ⟨t, q3, rfl, k69 _ _ ht6, _, ⟨o3, k69.frz hq36, ho3⟩, paired_take s.n (paired_imp (fun _ _ r => PrAt.keep k9 r) hpx)⟩
          · refine ⟨?_, rfl, rfl, List.Perm.refl _, ⟨0, ?_⟩, fun lo hi h => h, trivial, below, above, hz3, ?_⟩
            · show (ps.take s.n).length = s.n
              rw [List.length_take]
              omega
            · exact lkp_end (I.fresh z (List.mem_cons_self ..))
            · rcases hz4 with e | ⟨y, hy, e⟩
              · rw [e]
                exact I.last9
              · rw [e]
                exact (I.ok.2 y (List.mem_of_mem_take hy)).2.1
      | succ l =>
        obtain ⟨sa, sxs, rfl, hsa, hsp⟩ := hs
        have hsl : sxs.length = s.ks.length := Paired.length hsp
        have hsa1 := k1 _ _ hsa
        refine ⟨_, rfl, _, _, .type "tuple", .type "int", false, rfl, .ty "int", .base (.tup hsa1), kit_ty (by decide +kernel), false, rfl, ?_⟩
        refine iteF ?_
        refine ⟨Nat.zero_le _, fun qk hqk => ⟨Nat.zero_le _, fun qy hqy => ?_⟩⟩
        have nqk := four hp1 hr1 hn1 hd1 hqk
        have nqy := four (hp1.same (same_new hqk)) (same_new hqk _ _ hr1) (same_new hqk _ _ hn1) (same_new hqk _ _ hd1) hqy
        have nky : qk ≠ qy := ne_of_none (upd_same : upd H1 qk (.lst []) qk = _) hqy
        have s2 : Same H1 (upd (upd H1 qk (.lst [])) qy (.lst [])) := (same_new hqk).trans (same_new hqy)
        have hk2 : upd (upd H1 qk (.lst [])) qy (.lst []) qk = some (.lst []) := by rw [upd_ne nky]; exact upd_same
        have hy2 : upd (upd H1 qk (.lst [])) qy (.lst []) qy = some (.lst []) := upd_same
        generalize upd (upd H1 qk (.lst [])) qy (.lst []) = H2 at s2 hk2 hy2
        have room3 := I.r3
        have room8 := I.r8
        have nd := I.nodup
        have hzn : z ∉ ns1 := (List.nodup_cons.mp nd).1
        have nd1 : ns1.Nodup := (List.nodup_cons.mp nd).2
        have few2 := I.few2
        have few := I.few
        rw [List.length_cons] at few2
        have kle : s.ks.length ≤ room := hwf.2.1
        have khalf : 2 ≤ s.ks.length := by
          have h1 := hwf.1
          unfold loS at h1
          split at h1
          · rw [if_neg (by omega)] at h1
            exact h1
          · omega
        have hC : cntS (l + 1) s = (s.ks.map (cntS l)).sum := rfl
        have hP : pgsS (l + 1) s = 1 + (s.ks.map (pgsS l)).sum := rfl
        have hCn : (s.ks.map (cntS l)).sum ≤ ps.length := I.many
        have hPn : (s.ks.map (pgsS l)).sum ≤ ns1.length := by
          have := I.numbers
          rw [List.length_cons] at this
          omega
        have bnd := I.bound
        refine ⟨_, rfl, sa, rfl, ⟨sxs, SqT.of (s2 _ _ hsa1)⟩, ?_⟩
        refine for_tup (xs := sxs) (fun i σ H' => ∃ v8 ts ks D' last', σ = [some (.ref p), some (.ref sa), some (.ref r), some (.ref d), some (.int z), none, some (.ref qk), some (.ref qy), v8, none] ∧ But4 p r n d H H' ∧
          H' qk = some (.lst (ts.map fun t => V.int (num l t))) ∧ H' qy = some (.lst (ks.map V.int)) ∧ PotOk H' p (B + (((s.ks.take i).map (pgsS l)).sum : Nat)) ∧
          RestAt H' p r n d (ps.drop ((s.ks.take i).map (cntS l)).sum) (ns1.drop ((s.ks.take i).map (pgsS l)).sum) last' ∧ DctAt H' d (D ++ D') ∧ Mid l s.ks i ts ks ps ns1 D D' last last')
          ⟨none, [], [], [], last, rfl, b1.same s2, hk2, hy2, ?_, ?_, ?_, Mid.zero I.above I.last0 I.last9⟩ (fun i σ H' hi z => ?_) ?_ ?_
        · refine (hp1.same s2).le ?_
          show B ≤ B + ((0 : Nat) : Int)
          omega
        · exact ⟨a, s2 _ _ hr1, ⟨xs, s2 _ _ hx1, paired_imp (fun _ _ r => PrAt.keep (Keep.of s2) r) hpx1⟩, s2 _ _ hn1, nap, nar, nan, nad⟩
        · rw [List.append_nil]
          exact ⟨es, s2 _ _ hd1, paired_imp (fun _ _ (r : EnAt H1 _ _) => (⟨r.1, r.2.keep (Keep.of s2)⟩ : EnAt _ _ _)) hde1⟩
        · obtain ⟨v8, ts, ks, D', last', _, b, _⟩ := z
          exact SqT.of (b.keep I.pot I.rest I.dct _ _ hsa)
        · rintro i x σ H3 hxi ⟨v8, ts, ks, D', last', rfl, b3, hk3, hy3, hp3, hr3, hd3, M⟩
          obtain ⟨k, hk, hsk⟩ := pget1 hsp hxi
          have hi : i < s.ks.length := by
            rw [← hsl]
            exact (List.getElem?_eq_some_iff.mp hxi).1
          have k3 : Keep H H3 := b3.keep I.pot I.rest I.dct
          have hwk := hwf.2.2 k (List.mem_of_getElem? hk)
          have cp := cnt_pos room3 hwk
          have c1 := sum_part1 (cntS l) hk
          have p1 := sum_part1 (pgsS l) hk
          have htl : ts.length = i := by
            have z := congrArg List.length M.shapes
            rw [List.length_map, List.length_take] at z
            omega
          obtain ⟨a3, hr3a, ⟨xs3, hx3, hpx3⟩, hn3, na3⟩ := hr3
          obtain ⟨es3, hd3a, hde3⟩ := hd3
          -- the key
          refine ⟨fun σ' H' => σ' = [some (.ref p), some (.ref sa), some (.ref r), some (.ref d), some (.int z), none, some (.ref qk), some (.ref qy), some x, none] ∧ (∀ b o, b ≠ p → b ≠ qy → H3 b = some o → H' b = some o) ∧
            PotOk H' p (B + (((s.ks.take i).map (pgsS l)).sum : Nat) + 1) ∧ ∃ ks', H' qy = some (.lst (ks'.map V.int)) ∧ ((i = 0 ∧ ks' = []) ∨ (i ≠ 0 ∧ ∃ a, ks' = ks ++ [a] ∧ last' < a ∧ ∀ q ∈ ps.drop ((s.ks.take i).map (cntS l)).sum, a ≤ q.1)), ?_, ?_⟩
          · refine ⟨_, rfl, Nat.zero_le _, fun q hq => ?_⟩
            have s4 : Same H3 (upd H3 q (.lst [])) := same_new hq
            have hq4 : upd H3 q (.lst []) q = some (.lst []) := upd_same
            generalize upd H3 q (.lst []) = H4 at s4 hq4
            have hk4 := s4 _ _ hk3
            have hy4 := s4 _ _ hy3
            have hp4 := hp3.same s4
            have e1 : (ts.map fun t => V.int (num l t)) = (ts.map (num l)).map V.int := by rw [List.map_map]; rfl
            rw [e1] at hk4
            refine ⟨.list ((ts.map (num l)).map PyData.int), .list (([] : List Int).map PyData.int), .lst (SqL.of hk4) (dpa_ints _), .lst (SqL.of hq4) .nil, shaped_ints _, shaped_ints _, _, rfl, ?_⟩
            rw [eqv_ints]
            by_cases hi0 : i = 0
            · have ets : ts = [] := List.eq_nil_of_length_eq_zero (by omega)
              rw [ets]
              refine iteF ?_
              exact ⟨rfl, fun b o _ _ e => s4 _ _ e, hp4.le (by omega), ks, hy4, .inl ⟨hi0, M.empty hi0⟩⟩
            · have hne : decide (ts.map (num l) = []) = false := decide_eq_false fun e => by
                have z := congrArg List.length e
                rw [List.length_map, List.length_nil] at z
                omega
              rw [hne]
              refine iteT ?_
              obtain ⟨y, hy⟩ : ∃ y, (ps.drop ((s.ks.take i).map (cntS l)).sum)[0]? = some y := by
                refine ⟨_, List.getElem?_eq_getElem ?_⟩
                rw [List.length_drop]
                omega
              obtain ⟨xv, hxv, t0, rfl, ht0⟩ := pget2 hpx3 hy
              have hy9 : y.1 ≤ 1000000000 := (I.ok.2 y (List.mem_of_mem_drop (List.mem_of_getElem? hy))).2.1
              have hlast : last' < y.1 := M.above y (List.mem_of_getElem? hy)
              have hl1 : -1 ≤ last' := Int.le_trans I.last0 M.le
              refine ⟨_, rfl, .inl ⟨rfl, _, SqL.of hy4⟩, ?_⟩
              refine ⟨_, rfl, r, _, _, _, rfl, rfl, SqL.of (s4 _ _ hr3a), rfl, _, _, rfl, rfl, ?_⟩
              refine ⟨_, rfl, _, rfl, r, _, _, _, rfl, rfl, SqL.of (s4 _ _ hr3a), rfl, a3, _, _, _, rfl, rfl, SqL.of (s4 _ _ hx3), at_of hxv rfl, t0, _, _, _, rfl, rfl, SqT.of (s4 _ _ ht0), rfl, ?_⟩
              refine ⟨_, rfl, r, _, _, _, rfl, rfl, SqL.of (s4 _ _ hr3a), rfl, _, _, rfl, rfl, ?_⟩
              refine ⟨p, y.1 - last', _, rfl, by omega, by omega, hp4, by omega, fun H5 v b5 hp5 l5 u5 => ?_⟩
              refine ⟨_, _, rfl, rfl, ?_⟩
              have hy5 := b5 _ _ nqy.1 hy4
              refine ⟨qy, _, _, rfl, rfl, hy5, ?_, ?_⟩
              · rw [List.length_map]
                have := M.few
                exact Nat.lt_of_le_of_lt (by omega : _ ≤ 100000) (by decide)
              refine ⟨rfl, fun b o n1 n2 e => ?_, hp5.put nqy.1.symm, ks ++ [last' + 1 + v], ?_, .inr ⟨hi0, _, rfl, by omega, fun q hq => ?_⟩⟩
              · rw [upd_ne n2]
                exact b5 _ _ n1 (s4 _ _ e)
              · rw [upd_same, List.map_append]
                rfl
              · have hpw := I.ok.1.sublist (List.drop_sublist ((s.ks.take i).map (cntS l)).sum ps)
                have : y.1 ≤ q.1 := by
                  cases c : ps.drop ((s.ks.take i).map (cntS l)).sum with
                  | nil => rw [c] at hq; cases hq
                  | cons y' r =>
                    rw [c] at hy hq hpw
                    have ey : y' = y := Option.some.inj hy
                    subst ey
                    rcases List.mem_cons.mp hq with rfl | hq
                    · exact Int.le_refl _
                    · exact Int.le_of_lt ((List.pairwise_cons.mp hpw).1 q hq)
                omega
          · rintro σ' H4 ⟨rfl, b4, hp4, ks', hy4, hks⟩
            have hdne : ps.drop ((s.ks.take i).map (cntS l)).sum ≠ [] := fun e => by
              have z := congrArg List.length e
              rw [List.length_drop, List.length_nil] at z
              omega
            have na3y : a3 ≠ qy := pr_ne hx3 hpx3 hy3 (.inl hdne)
            have hr4 := b4 _ _ npr.symm nqy.2.1.symm hr3a
            have hn4 := b4 _ _ npn.symm nqy.2.2.1.symm hn3
            have hd4 := b4 _ _ npd.symm nqy.2.2.2.symm hd3a
            have hx4 := b4 _ _ na3.1 na3y hx3
            have hk4 := b4 _ _ nqk.1 nky hk3
            have k4 : Keep H3 H4 := ⟨fun c u tu e => b4 c _ (tpb_no hp3.noTup tu e) (fun z => by subst z; rw [hy3] at e; cases e; cases tu) e⟩
            have k04 : Keep H H4 := k3.trans k4
            have hDl : D'.length = ((s.ks.take i).map (pgsS l)).sum := by
              have z := M.perm.length_eq
              rw [List.length_map, M.number, List.length_take] at z
              omega
            refine ⟨_, rfl, .inl ⟨rfl, _, SqL.of hk4⟩, _, rfl, _, rfl, _, rfl, _, rfl, ?_⟩
            refine ⟨l, room, false, x, k, p, r, n, d, ps.drop ((s.ks.take i).map (cntS l)).sum, ns1.drop ((s.ks.take i).map (pgsS l)).sum, D ++ D', last', B + (((s.ks.take i).map (pgsS l)).sum : Nat) + 1, rfl, by omega, hwk, hsk.keep k04, ?_, fun H5 t5 D5 last5 b5 hp5 hr5 hd5 g => ?_⟩
            · refine ⟨room3, room8, hp4, by omega, ⟨a3, hr4, ⟨xs3, hx4, paired_imp (fun _ _ r => PrAt.keep k4 r) hpx3⟩, hn4, na3⟩, ⟨es3, hd4, paired_imp (fun _ _ (r : EnAt H3 _ _) => (⟨r.1, r.2.keep k4⟩ : EnAt _ _ _)) hde3⟩, I.dif,
                ⟨I.ok.1.sublist (List.drop_sublist _ _), fun q hq => I.ok.2 q (List.mem_of_mem_drop hq)⟩, M.above, Int.le_trans I.last0 M.le, M.le9, by rw [List.length_drop]; omega, by rw [List.length_drop]; omega, nd1.sublist (List.drop_sublist _ _), fun u hu => ?_, by rw [List.length_drop]; omega, by rw [List.length_drop, List.length_append]; omega⟩
              refine lkp_none fun q hq e => ?_
              rcases List.mem_append.mp hq with hq | hq
              · exact lkp_ne (I.fresh u (List.mem_cons_of_mem _ (List.mem_of_mem_drop hu))) q hq e
              · have m : q.1 ∈ ts.flatMap (nums l) := M.perm.mem_iff.mp (List.mem_map_of_mem hq)
                rw [M.number, e] at m
                have nd2 := nd1
                rw [← List.take_append_drop ((s.ks.take i).map (pgsS l)).sum ns1] at nd2
                exact (List.nodup_append.mp nd2).2.2 u m u hu rfl
            · have M' := M.step hk hks g cp (by omega)
              have hk5 := b5 _ _ nqk.1 nqk.2.1 nqk.2.2.1 nqk.2.2.2 hk4
              have hy5 := b5 _ _ nqy.1 nqy.2.1 nqy.2.2.1 nqy.2.2.2 hy4
              obtain ⟨a5, hr5a, ⟨xs5, hx5, hpx5⟩, hn5, na5⟩ := hr5
              obtain ⟨es5, hd5a, hde5⟩ := hd5
              have na5k : a5 ≠ qk := by
                have e1 : (ts.map fun t => V.int (num l t)) = (ts.map (num l)).map V.int := by rw [List.map_map]; rfl
                rw [e1] at hk5
                refine pr_ne hx5 hpx5 hk5 ?_
                by_cases c : ts = []
                · refine .inl fun e => ?_
                  have z := congrArg List.length e
                  rw [List.length_drop, List.length_drop, List.length_nil] at z
                  have hi0 : i = 0 := by rw [← htl, c]; rfl
                  have hk1 : i + 1 < s.ks.length := by omega
                  have c2 := sum_part1 (cntS l) (List.getElem?_eq_getElem hk1)
                  have c3 := cnt_pos room3 (hwf.2.2 _ (List.getElem_mem hk1))
                  rw [sum_more (cntS l) hk] at c2
                  omega
                · exact .inr fun e => c (List.map_eq_nil_iff.mp e)
              refine ⟨qk, _, _, rfl, rfl, hk5, ?_, ?_⟩
              · rw [List.length_map]
                exact Nat.lt_of_le_of_lt (by omega : _ ≤ 100000) (by decide)
              have k5 : Keep H5 (upd H5 qk (.lst ((ts.map fun t => V.int (num l t)) ++ [V.int (num l t5)]))) := (Keep.refl H5).upd fun ys e => by rw [hk5] at e; cases e; rfl
              refine ⟨_, ts ++ [t5], ks', D' ++ D5, last5, rfl, fun b o n1 n2 n3 n4 e => ?_, ?_, ?_, ?_, ?_, ?_, M'⟩
              · have z3 := b3 b o n1 n2 n3 n4 e
                have nbk : b ≠ qk := fun q => by
                  subst q
                  have : H1 b = some o := b1 b o n1 n2 n3 n4 e
                  rw [this] at hqk
                  cases hqk
                have nby : b ≠ qy := fun q => by
                  subst q
                  have : H1 b = some o := b1 b o n1 n2 n3 n4 e
                  rw [same_new hqk _ _ this] at hqy
                  cases hqy
                rw [upd_ne nbk]
                exact b5 _ _ n1 n2 n3 n4 (b4 _ _ n1 nby z3)
              · rw [upd_same, List.map_append]
                rfl
              · rw [upd_ne nky.symm]
                exact hy5
              · refine (hp5.put nqk.1.symm).le ?_
                rw [sum_more (pgsS l) hk]
                omega
              · refine ⟨a5, by rw [upd_ne nqk.2.1.symm]; exact hr5a, ⟨xs5, by rw [upd_ne na5k]; exact hx5, ?_⟩, ?_, na5⟩
                · rw [sum_more (cntS l) hk, ← List.drop_drop]
                  exact paired_imp (fun _ _ r => PrAt.keep k5 r) hpx5
                · rw [upd_ne nqk.2.2.1.symm, sum_more (pgsS l) hk, ← List.drop_drop]
                  exact hn5
              · refine ⟨es5, by rw [upd_ne nqk.2.2.2.symm]; exact hd5a, ?_⟩
                rw [← List.append_assoc]
                exact paired_imp (fun _ _ (r : EnAt H5 _ _) => (⟨r.1, r.2.keep k5⟩ : EnAt _ _ _)) hde5
        · rintro σ H3 ⟨v8, ts, ks, D', last', rfl, b3, hk3, hy3, hp3, hr3, hd3, M⟩
          rw [hsl] at M hr3 hp3
          have k3 : Keep H H3 := b3.keep I.pot I.rest I.dct
          obtain ⟨a3, hr3a, ⟨xs3, hx3, hpx3⟩, hn3, na3⟩ := hr3
          obtain ⟨es3, hd3a, hde3⟩ := hd3
          have e1 : (ts.map fun t => V.int (num l t)) = (ts.map (num l)).map V.int := by rw [List.map_map]; rfl
          rw [e1] at hk3
          refine ⟨_, rfl, qy, _, rfl, .inl ⟨SqL.of hy3, fun q1 hq1 => ?_⟩⟩
          have s4 : Same H3 (upd H3 q1 (.tup (ks.map V.int))) := same_new hq1
          refine ⟨_, rfl, qk, _, rfl, SqL.of (s4 _ _ hk3), fun q2 o2 hq2 ho2 => ⟨by show 3 ≤ sizeLine; decide, fun t ht => ?_⟩⟩
          have n12 : q1 ≠ q2 := ne_of_none (upd_same : upd H3 q1 (.tup (ks.map V.int)) q1 = _) hq2
          have hq25 : upd (upd H3 q1 (.tup (ks.map V.int))) q2 (.frz o2 (.tup ((ts.map (num l)).map V.int))) q2 = some (.frz o2 (.tup ((ts.map (num l)).map V.int))) := upd_same
          have hq15 : upd (upd H3 q1 (.tup (ks.map V.int))) q2 (.frz o2 (.tup ((ts.map (num l)).map V.int))) q1 = some (.tup (ks.map V.int)) := by rw [upd_ne n12]; exact upd_same
          have s5 := s4.trans (same_new (o := .frz o2 (.tup ((ts.map (num l)).map V.int))) hq2)
          generalize upd (upd H3 q1 (.tup (ks.map V.int))) q2 (.frz o2 (.tup ((ts.map (num l)).map V.int))) = H5 at hq25 hq15 s5 ht
          have s6 := s5.trans (same_new (o := .tup [.str "node", .ref q1, .ref q2]) ht)
          have ht6 : upd H5 t (.tup [.str "node", .ref q1, .ref q2]) t = some (.tup [.str "node", .ref q1, .ref q2]) := upd_same
          have hq16 := same_new (o := .tup [.str "node", .ref q1, .ref q2]) ht _ _ hq15
          have hq26 := same_new (o := .tup [.str "node", .ref q1, .ref q2]) ht _ _ hq25
          generalize upd H5 t (.tup [.str "node", .ref q1, .ref q2]) = H6 at s6 ht6 hq16 hq26
          have hDl : D'.length = ((s.ks.take s.ks.length).map (pgsS l)).sum := by
            have z := M.perm.length_eq
            rw [List.length_map, M.number, List.length_take, List.take_length] at z
            rw [List.take_length]
            omega
          rw [List.take_length] at hDl
          refine ⟨_, rfl, _, rfl, d, _, rfl, DPut.k (k := .inl z) (s6 _ _ hd3a) ?_, ?_⟩
          · have := Paired.length hde3
            rw [List.length_append] at this
            exact Nat.lt_of_le_of_lt (by omega : es3.length ≤ 100000) (by decide)
          have b9 : But4 p r n d H (upd H6 d (.dK (putK es3 (.inl z) (.ref t)))) := (b3.same s6).put (.inr (.inr (.inr rfl)))
          have k69 : Keep H6 (upd H6 d (.dK (putK es3 (.inl z) (.ref t)))) := (Keep.refl H6).upd fun ys e => by rw [s6 _ _ hd3a] at e; cases e; rfl
          have k39 := (Keep.of s6).trans k69
          have G := M.done (by omega) (fun q hq => ⟨(I.ok.2 q hq).1, by have := (I.ok.2 q hq).2.1; omega⟩) (I.fresh z (List.mem_cons_self ..)) hzn
          have hd' : lkp (D ++ D') z = none := lkp_none fun q hq e => by
            rcases List.mem_append.mp hq with hq | hq
            · exact lkp_ne (I.fresh z (List.mem_cons_self ..)) q hq e
            · have m : q.1 ∈ ts.flatMap (nums l) := M.perm.mem_iff.mp (List.mem_map_of_mem hq)
              rw [M.number, e] at m
              exact hzn (List.mem_of_mem_take m)
          refine ⟨_, rfl, kq _ (ndT z ks ts) _ last' b9 ?_ ?_ ?_ G⟩
          · refine ((hp3.same s6).put npd).le ?_
            rw [List.take_length]
            omega
          · refine ⟨a3, by rw [upd_ne nrd]; exact s6 _ _ hr3a, ⟨xs3, by rw [upd_ne na3.2.2.2]; exact s6 _ _ hx3, ?_⟩, ?_, na3⟩
            · rw [List.take_length] at hpx3
              exact paired_imp (fun _ _ r => PrAt.keep k39 r) hpx3
            · rw [upd_ne nnd]
              have z := s6 _ _ hn3
              rw [List.take_length] at z
              rw [hP, Nat.add_comm 1]
              exact z
          · refine ⟨_, upd_same, ?_⟩
            rw [← List.append_assoc]
            exact DctAt.put (paired_imp (fun _ _ (r : EnAt H3 _ _) => (⟨r.1, r.2.keep k39⟩ : EnAt _ _ _)) hde3) hd' ⟨t, q1, q2, rfl, k69 _ _ ht6, k69 _ _ hq16, o2, k69.frz hq26, ho2⟩
end
end K29

namespace K29
open PySem PySem.Spec PyProof.Rows L2 RZ HX TR
theorem DctAt.get {H : Hp} {d : Addr} {D : List (Int × Pg)} (h : DctAt H d D) {k : Int} {g : Pg} (e : lkp D k = some g) : ∃ v, DGet H d (.int k) (some v) ∧ PgAt H v g := by
  obtain ⟨es, h1, h2⟩ := h
  rcases valV_of (k := k) h2 with ⟨z, _⟩ | ⟨g', v, z, hv, hg⟩
  · rw [z] at e
    cases e
  · rw [z] at e
    cases e
    exact ⟨v, hv ▸ DGet.k (k := .inl k) h1, hg⟩
theorem DctAt.same {H H' : Hp} {d : Addr} {D : List (Int × Pg)} (h : DctAt H d D) (s : Same H H') : DctAt H' d D := by
  obtain ⟨es, h1, h2⟩ := h
  exact ⟨es, s _ _ h1, paired_imp (fun _ _ (r : EnAt H _ _) => (⟨r.1, r.2.keep (Keep.of s)⟩ : EnAt _ _ _)) h2⟩
theorem DctAt.len {H : Hp} {d : Addr} {D : List (Int × Pg)} (h : DctAt H d D) : ∃ es : List (Key × V), H d = some (.dK es) ∧ es.length = D.length := by
  obtain ⟨es, h1, h2⟩ := h
  exact ⟨es, h1, Paired.length h2⟩
section
variable {P : Program} {w : World} {K : PySem.W.Frag} {mg : Str → Option Value} {base : Heap}
def sp_law_leaves (N : Nat) : Sp := fun vs H Q _ => ∃ (l : Nat) (t : Tr l) (d : Addr) (D : List (Int × Pg)), vs = [.ref d, .int (num l t)] ∧ l < N ∧ DctAt H d D ∧ Laid D l t ∧ (lvs l t).length ≤ 100000 ∧
  ∀ (H' : Hp) (a : Addr), Same H H' → H a = none → H' a = some (.lst ((lvs l t).map V.int)) → Q (.ref a) H'
theorem ok_law_leaves (T : TX K mg) : ∀ N : Nat, FnOk P w K mg base CX0 (N + 1) (He.ga K "_law_leaves") T.fd_law_leaves ["pages", "number"] (sp_law_leaves N) := by
  intro N
  induction N with
  | zero =>
    refine T.F_law_leaves.ok sc_law_leaves (fun vs H Q E h => ?_) (fun cdv A outer st H vs Q E hr h => ?_)
    · obtain ⟨l, t, d, D, rfl, _⟩ := h
      rfl
    · obtain ⟨l, t, d, D, rfl, h1, _⟩ := h
      omega
  | succ N ih =>
    have G_law_leaves := ih
    have b_law_leaves := b_law_leaves T
    refine T.F_law_leaves.ok sc_law_leaves (fun vs H Q E h => ?_) (fun cdv A outer st H vs Q E hr h => ?_)
    · obtain ⟨l, t, d, D, rfl, _⟩ := h
      rfl
    · obtain ⟨l, t, d, D, rfl, hl, hd, hL, hfew, kq⟩ := h
      refine ⟨_, PSs.nox (pss_cons (ps_if (pt_cmpR op_eq (pe_ix ix_tup (pe_dget (hu_of hr) (pv 0) (pv 1) (fun _ _ => rfl)) pe_int (fun _ _ => rfl)) pe_str (nomark _))
 (pss_one (ps_ret (pe_lst (pa_cons (pv 1) pa_nil))))
 pss_nil)
 (pss_cons (ps_set (i := 2) sc_law_leaves.nd rfl (Or.inl rfl) (pe_lst pa_nil))
 (pss_cons (ps_for PassesOwn.never rfl (pi_tup (pe_ix ix_tup (pe_dget (hu_of hr) (pv 0) (pv 1) (fun _ _ => rfl)) pe_int (fun _ _ => rfl))) (pg_name (i := 3) sc_law_leaves.nd rfl (Or.inl rfl))
 (pss_one (ps_expr (pe_bm PySem.F.plainAttrs_list PySem.F.slot_list_extend PySem.F.type_list_extend mt_extend (pv 2) (pa_cons (pe_call G_law_leaves (hr.mono (by first | decide | omega)) rfl T.g_law_leaves T.F_law_leaves.kp b_law_leaves .nil pass0 (pa_cons (pv 0) (pa_cons (pv 3) pa_nil))) pa_nil)))))
 (pss_one (ps_ret (pv 2)))))), ?_⟩
      cases l with
      | zero =>
        obtain ⟨nx, hk⟩ := hL
        obtain ⟨v, hv, t1, q, rfl, ht1, _⟩ := hd.get hk
        refine ⟨_, rfl, _, rfl, d, _, rfl, hv, t1, _, _, _, rfl, rfl, SqT.of ht1, rfl, rfl, _, rfl, ?_⟩
        refine iteT ?_
        refine ⟨_, rfl, by show 1 ≤ sizeLine; decide, fun q1 hq1 => kq _ q1 (same_new hq1) hq1 upd_same⟩
      | succ l =>
        obtain ⟨hk, hks⟩ := hL
        obtain ⟨v, hv, t1, q1, q2, rfl, ht1, _, hq2⟩ := hd.get hk
        refine ⟨_, rfl, _, rfl, d, _, rfl, hv, t1, _, _, _, rfl, rfl, SqT.of ht1, rfl, rfl, _, rfl, ?_⟩
        refine iteF ?_
        refine ⟨Nat.zero_le _, fun f hf => ?_⟩
        have s1 : Same H (upd H f (.lst [])) := same_new hf
        have hf1 : upd H f (.lst []) f = some (.lst []) := upd_same
        generalize upd H f (.lst []) = H1 at s1 hf1
        obtain ⟨v1, hv1, t3, q3, q4, e3, ht3, _, hq4⟩ := (hd.same s1).get hk
        subst e3
        refine ⟨_, rfl, _, rfl, d, _, rfl, hv1, t3, _, _, _, rfl, rfl, SqT.of ht3, rfl, q4, rfl, ⟨_, hq4.sq⟩, ?_⟩
        have hlen : ((t.kids.map (num l)).map V.int).length = t.kids.length := by rw [List.length_map, List.length_map]
        refine for_tup (xs := (t.kids.map (num l)).map V.int) (fun i σ H' => ∃ v3, σ = [some (.ref d), some (.int (num (l + 1) t)), some (.ref f), v3] ∧ But f H1 H' ∧ H' f = some (.lst (((t.kids.take i).flatMap (lvs l)).map V.int)))
          ⟨_, rfl, But.refl f H1, hf1⟩ (fun i σ H' hi z => ?_) ?_ ?_
        · obtain ⟨v3, _, b, _⟩ := z
          exact (hq4.keep (Keep.but b fun u e => by rw [hf1] at e; cases e; rfl)).sq
        · rintro i x σ H3 hxi ⟨v3, rfl, b3, hf3⟩
          obtain ⟨k, hk', rfl⟩ : ∃ k, t.kids[i]? = some k ∧ x = .int (num l k) := by
            rw [List.getElem?_map, List.getElem?_map] at hxi
            cases c : t.kids[i]? with
            | none => rw [c] at hxi; cases hxi
            | some k => rw [c] at hxi; exact ⟨k, rfl, (Option.some.inj hxi).symm⟩
          have hd3 : DctAt H3 d D := by
            obtain ⟨es, h1, h2⟩ := hd.same s1
            have k13 : Keep H1 H3 := Keep.but b3 fun ys e => by rw [hf1] at e; cases e; rfl
            refine ⟨es, b3 _ _ (fun e => ?_) h1, paired_imp (fun _ _ (r : EnAt H1 _ _) => (⟨r.1, r.2.keep k13⟩ : EnAt _ _ _)) h2⟩
            rw [e, hf1] at h1
            cases h1
          have mk : k ∈ t.kids := List.mem_of_getElem? hk'
          have part : ((t.kids.take i).flatMap (lvs l)).length + (lvs l k).length ≤ (lvs (l + 1) t).length := by
            have z := sum_part1 (fun u => (lvs l u).length) hk'
            rw [List.length_flatMap]
            show _ ≤ (t.kids.flatMap (lvs l)).length
            rw [List.length_flatMap]
            exact z
          refine ⟨_, rfl, .inl ⟨rfl, _, SqL.of hf3⟩, _, rfl, _, rfl, ?_⟩
          refine ⟨l, k, d, D, rfl, by omega, hd3, hks k mk, by omega, fun H5 a s5 _ ha => ?_⟩
          refine ⟨f, a, _, _, rfl, rfl, s5 _ _ hf3, ha, ?_, _, rfl, (But.trans b3 (But.of s5)).upd, ?_⟩
          · rw [List.length_map, List.length_map]
            exact Nat.le_trans (by omega : _ ≤ 100000) (by decide)
          · rw [upd_same, take_more hk', List.flatMap_append, List.map_append]
            simp
        · rintro σ H3 ⟨v3, rfl, b3, hf3⟩
          rw [hlen, List.take_length] at hf3
          refine ⟨_, rfl, kq H3 f (fun b o e => ?_) hf hf3⟩
          exact b3 _ _ (fun z => by rw [z, hf] at e; cases e) (s1 _ _ e)
end
end K29

namespace K29
open PySem PySem.Spec PyProof.Rows L2 RZ HX TR
theorem cut_from' {xs : List V} {n : Nat} : cutV xs (some (n : Int)) none = xs.drop n := by
  by_cases h : n ≤ xs.length
  · exact cut_from h
  · have e1 : HT.sIx xs.length 0 (some (n : Int)) = xs.length := by rw [HT.sIx_nat]; omega
    have e2 : HT.sIx xs.length xs.length none = xs.length := rfl
    unfold cutV
    rw [e1, e2, List.drop_of_length_le (by omega : xs.length ≤ n), List.drop_length, List.take_nil]
theorem map_at {α β : Type} {f : α → β} {xs : List α} {i : Nat} {y : β} (h : (xs.map f)[i]? = some y) : ∃ x, xs[i]? = some x ∧ y = f x := by
  rw [List.getElem?_map] at h
  cases c : xs[i]? with
  | none => rw [c] at h; cases h
  | some x => rw [c] at h; exact ⟨x, rfl, (Option.some.inj h).symm⟩
theorem DctAt.set {H : Hp} {k : Int} {v : V} {g : Pg} (hv : PgAt H v g) : ∀ {es : List (Key × V)} {D : List (Int × Pg)}, Paired (EnAt H) es D → Paired (EnAt H) (es.map fun kv => if kv.1 = .inl k then (kv.1, v) else kv) (setp D k g)
  | _, _, .nil => .nil
  | e :: es, q :: D, .cons r rs => by
    refine .cons ?_ (DctAt.set hv rs)
    obtain ⟨r1, r2⟩ := r
    show EnAt H (if e.1 = .inl k then (e.1, v) else e) (if q.1 = k then (q.1, g) else q)
    by_cases c : q.1 = k
    · rw [if_pos c, if_pos (by rw [r1, c])]
      exact ⟨r1, hv⟩
    · rw [if_neg c, if_neg (fun z => c (by rw [r1] at z; injection z))]
      exact ⟨r1, r2⟩
theorem putK_old {H : Hp} {es : List (Key × V)} {D : List (Int × Pg)} {k : Int} {v : V} {g : Pg} (h : Paired (EnAt H) es D) (hn : lkp D k = some g) : putK es (.inl k) v = es.map fun kv => if kv.1 = .inl k then (kv.1, v) else kv := by
  unfold putK
  rw [if_pos]
  obtain ⟨i, hi⟩ := List.getElem?_of_mem (lkp_mem hn)
  obtain ⟨e, he, r1, _⟩ := pget2 h hi
  exact List.any_eq_true.mpr ⟨e, List.mem_of_getElem? he, decide_eq_true r1⟩
theorem dct_keys {H : Hp} : ∀ {es : List (Key × V)} {D : List (Int × Pg)}, Paired (EnAt H) es D → ∃ ks : List (Int × Addr), es = ks.map HS.entK ∧ Paired (fun (k : Int × Addr) q => k.1 = q.1 ∧ PgAt H (.ref k.2) q.2) ks D
  | _, _, .nil => ⟨[], rfl, .nil⟩
  | (k, v) :: es, (n, g) :: D, .cons r rs => by
    obtain ⟨r1, r2⟩ := r
    obtain ⟨ks, e, h⟩ := dct_keys rs
    dsimp only at r1 r2
    subst r1
    have hv : ∃ a, v = .ref a := by
      cases g with
      | leaf ps nx => obtain ⟨t, _, e, _⟩ := r2; exact ⟨t, e⟩
      | node ks kids => obtain ⟨t, _, _, e, _⟩ := r2; exact ⟨t, e⟩
    obtain ⟨a, rfl⟩ := hv
    exact ⟨(n, a) :: ks, by rw [e]; rfl, .cons ⟨rfl, r2⟩ h⟩
def NumAt (H : Hp) (x : V) (q : Int × Pg) : Prop := ∃ t v, x = .ref t ∧ H t = some (.tup [.int q.1, v]) ∧ PgAt H v q.2
def TreeAt (H : Hp) (v : V) (room root : Int) (S : List (Int × Pg)) : Prop := ∃ a b o xs, v = .ref a ∧ H a = some (.tup [.int room, .int root, .ref b]) ∧ H b = some (.frz o (.tup xs)) ∧ o.dict = none ∧ Paired (NumAt H) xs S
theorem NumAt.keep {H H' : Hp} (k : Keep H H') {x : V} {q : Int × Pg} (h : NumAt H x q) : NumAt H' x q := by
  obtain ⟨t, v, e, h1, h2⟩ := h
  exact ⟨t, v, e, k _ _ h1, h2.keep k⟩
theorem TreeAt.same {H H' : Hp} (k : Same H H') {v : V} {room root : Int} {S : List (Int × Pg)} (h : TreeAt H v room root S) : TreeAt H' v room root S := by
  obtain ⟨a, b, o, xs, e, h1, h2, h3, h4⟩ := h
  exact ⟨a, b, o, xs, e, k _ _ h1, k _ _ h2, h3, paired_imp (fun _ _ r => NumAt.keep (Keep.of k) r) h4⟩
theorem TreeAt.but {H H' : Hp} {p : Addr} {B : Int} (k : But p H H') (hp : PotOk H p B) {v : V} {room root : Int} {S : List (Int × Pg)} (h : TreeAt H v room root S) : TreeAt H' v room root S := by
  obtain ⟨a, b, o, xs, e, h1, h2, h3, h4⟩ := h
  refine ⟨a, b, o, xs, e, hp.keep k _ _ h1, k _ _ (fun z => ?_) h2, h3, paired_imp (fun _ _ r => NumAt.keep (hp.keep k) r) h4⟩
  obtain ⟨x, y, c, h0, _⟩ := hp
  rw [z, h0] at h2
  cases h2
theorem erase_map {α β : Type} (f : α → β) : ∀ (l : List α) (k : Nat), (l.map f).eraseIdx k = (l.eraseIdx k).map f
  | [], _ => rfl
  | _ :: _, 0 => rfl
  | a :: l, k + 1 => by
    show f a :: (l.map f).eraseIdx k = f a :: (l.eraseIdx k).map f
    rw [erase_map f l k]
theorem seqk {k n : Nat} (h : k < n) : seqIndex? (k : Int) n = some k := by
  show (let j := if (k : Int) < 0 then (k : Int) + (n : Int) else (k : Int); if (decide (0 ≤ j) && decide (j < (n : Int))) = true then some j.toNat else none) = some k
  have e : ¬ (k : Int) < 0 := by omega
  simp only [if_neg e]
  rw [if_pos (by simp; omega), Int.toNat_natCast]
theorem erase_perm {α : Type} : ∀ {l : List α} {k : Nat} (h : k < l.length), (l[k] :: l.eraseIdx k).Perm l
  | a :: l, 0, _ => .refl _
  | a :: l, k + 1, h => (List.Perm.swap a _ _).trans (List.Perm.cons a (erase_perm (l := l) (k := k) (Nat.lt_of_succ_lt_succ h)))
theorem keys_eq {H : Hp} : ∀ {ks : List (Int × Addr)} {S : List (Int × Pg)}, Paired (fun (k : Int × Addr) q => k.1 = q.1 ∧ PgAt H (.ref k.2) q.2) ks S → ks.map (·.1) = S.map (·.1)
  | _, _, .nil => rfl
  | k :: ks, q :: S, .cons r rs => by
    rw [List.map_cons, List.map_cons, keys_eq rs, r.1]
theorem num_paired {H H' : Hp} (k : Keep H H') : ∀ {ps : List (Addr × Int × Addr)} {S : List (Int × Pg)}, Paired (fun (k : Int × Addr) q => k.1 = q.1 ∧ PgAt H (.ref k.2) q.2) (ps.map (·.2)) S → (∀ z ∈ ps, H' z.1 = some (.tup [.int z.2.1, .ref z.2.2])) →
    Paired (NumAt H') (ps.map fun z => V.ref z.1) S
  | [], [], .nil, _ => .nil
  | z :: ps, q :: S, .cons r rs, h => .cons ⟨z.1, .ref z.2.2, rfl, by rw [← r.1]; exact h z (List.mem_cons_self ..), r.2.keep k⟩ (num_paired k rs fun y hy => h y (List.mem_cons_of_mem _ hy))
/-- all but three stay -/
def But3 (p r n : Addr) (H H' : Hp) : Prop := ∀ b o, b ≠ p → b ≠ r → b ≠ n → H b = some o → H' b = some o
end K29

namespace K29
open PySem PySem.Spec PyProof.Rows L2 RZ HX TR
def Pg.isLeaf : Pg → Bool
  | .leaf _ _ => true
  | .node _ _ => false
def GoodPr (q : Int × Int) : Prop := 0 ≤ q.1 ∧ q.1 ≤ 1000000000 ∧ 0 ≤ q.2 ∧ q.2 ≤ 1000000000
def PgOk : Pg → Prop
  | .leaf ps nx => (∀ q ∈ ps, GoodPr q) ∧ ps.Pairwise (fun a b => a.1 < b.1) ∧ 0 ≤ nx ∧ nx ≤ 1000000 ∧ ps.length ≤ 1000
  | .node ks kids => ks.Pairwise (· < ·) ∧ (∀ k ∈ ks, 0 ≤ k ∧ k ≤ 1000000000) ∧ (∀ k ∈ kids, 1 ≤ k ∧ k ≤ 1000000) ∧ ks.length + 1 = kids.length ∧ kids.length ≤ 1000
theorem all_true {α : Type} (xs : List α) : (xs.map fun _ => true).all id = true := by
  rw [List.all_map]
  exact List.all_eq_true.mpr fun _ _ => rfl
theorem rep_true (n : Nat) : (List.replicate n true).all id = true := by
  refine List.all_eq_true.mpr fun x hx => ?_
  rw [(List.mem_replicate.mp hx).2]
  rfl
theorem rep_snoc (n : Nat) : (List.replicate n true).map V.bl ++ [V.bl true] = (List.replicate (n + 1) true).map V.bl := by
  rw [List.replicate_succ', List.map_append]
  rfl
section
variable {P : Program} {w : World} {K : PySem.W.Frag} {mg : Str → Option Value} {base : Heap}
def sp_is_whole : Sp := fun vs H Q _ => ∃ i : Int, vs = [.int i] ∧ Q (.bl true) H
theorem ok_is_whole (T : TX K mg) : FnOk P w K mg base CX0 1 (He.ga K "is_whole") T.fd_is_whole ["thing"] sp_is_whole := by
  refine T.F_is_whole.ok sc_is_whole (fun vs H Q E h => ?_) (fun cdv A outer st H vs Q E hr h => ?_)
  · obtain ⟨i, rfl, _⟩ := h
    rfl
  · obtain ⟨i, rfl, kq⟩ := h
    refine ⟨_, PSs.nox (pss_one (ps_ret (pe_and (pe_callB call_isi rfl T.n_isinstance (by decide +kernel) (pa_cons (pv 0) (pa_cons (pe_ty "int" T.n_int (by decide +kernel)) pa_nil))) (pe_one (pe_not (pe_callB call_isi rfl T.n_isinstance (by decide +kernel) (pa_cons (pv 0) (pa_cons (pe_ty "bool" T.n_bool (by decide +kernel)) pa_nil)))))))), ?_⟩
    refine ⟨_, rfl, _, _, .type "int", .type "int", true, rfl, .ty "int", .base (.int _), kit_ty (by decide +kernel), true, rfl, ?_⟩
    refine iteT ?_
    exact ⟨_, rfl, _, _, .type "int", .type "bool", false, rfl, .ty "bool", .base (.int _), kit_ty (by decide +kernel), _, rfl, kq⟩
def sp_is_between : Sp := fun vs H Q _ => ∃ i a b : Int, vs = [.int i, .int a, .int b] ∧ Q (.bl (decide (a ≤ i) && decide (i ≤ b))) H
theorem ok_is_between (T : TX K mg) : FnOk P w K mg base CX0 2 (He.ga K "is_between") T.fd_is_between ["thing", "low", "high"] sp_is_between := by
  have G_is_whole : FnOk P w K mg base CX0 1 (He.ga K "is_whole") T.fd_is_whole ["thing"] sp_is_whole := ok_is_whole T
  have b_is_whole := b_is_whole T
  refine T.F_is_between.ok sc_is_between (fun vs H Q E h => ?_) (fun cdv A outer st H vs Q E hr h => ?_)
  · obtain ⟨i, a, b, rfl, _⟩ := h
    rfl
  · obtain ⟨i, a, b, rfl, kq⟩ := h
    refine ⟨_, PSs.nox (pss_one (ps_ret (pe_and (pe_call G_is_whole (hr.mono (by first | decide | omega)) rfl T.g_is_whole T.F_is_whole.kp b_is_whole .nil pass0 (pa_cons (pv 0) pa_nil)) (pe_one (pe_chain op_le op_le (pv 1) (pv 0) (pv 2)))))), ?_⟩
    refine ⟨_, rfl, i, rfl, true, rfl, ?_⟩
    refine iteT ?_
    refine ⟨_, rfl, _, rfl, _, _, rfl, rfl, _, rfl, ?_⟩
    cases c : decide (a ≤ i) with
    | true =>
      rw [c] at kq
      exact iteT ⟨_, rfl, _, _, rfl, rfl, kq⟩
    | false =>
      rw [c] at kq
      exact iteF kq
def sp_is_row : Sp := fun vs H Q _ => ∃ (a : Addr) (xs : List V) (n : Int), vs = [.ref a, .int n] ∧ H a = some (.tup xs) ∧ Q (.bl (decide ((xs.length : Int) = n))) H
theorem ok_is_row (T : TX K mg) : FnOk P w K mg base CX0 1 (He.ga K "is_row") T.fd_is_row ["thing", "many"] sp_is_row := by
  refine T.F_is_row.ok sc_is_row (fun vs H Q E h => ?_) (fun cdv A outer st H vs Q E hr h => ?_)
  · obtain ⟨a, xs, n, rfl, _⟩ := h
    rfl
  · obtain ⟨a, xs, n, rfl, ha, kq⟩ := h
    refine ⟨_, PSs.nox (pss_one (ps_ret (pe_and (pe_callB call_isi rfl T.n_isinstance (by decide +kernel) (pa_cons (pv 0) (pa_cons (pe_ty "tuple" T.n_tuple (by decide +kernel)) pa_nil))) (pe_one (pe_cmpR op_eq (pe_callB call_len_seq rfl T.n_len PySem.boot_len (pa_cons (pv 0) pa_nil)) (pv 1) (nomark _)))))), ?_⟩
    refine ⟨_, rfl, _, _, .type "tuple", .type "tuple", true, rfl, .ty "tuple", .base (.tup ha), kit_ty (by decide +kernel), true, rfl, ?_⟩
    refine iteT ?_
    refine ⟨_, rfl, a, _, rfl, .inr (SqT.of ha), _, rfl, rfl, ?_⟩
    have e : decide (V.int (xs.length : Int) = V.int n) = decide ((xs.length : Int) = n) := by
      by_cases c : (xs.length : Int) = n
      · rw [c]
        simp
      · rw [decide_eq_false c]
        exact decide_eq_false fun z => c (by injection z)
    rw [e]
    exact kq
def sp_rng (lo hi : Int) : Sp := fun vs H Q _ => ∃ i : Int, vs = [.int i] ∧ Q (.bl (decide (lo ≤ i) && decide (i ≤ hi))) H
theorem ok_is_key (T : TX K mg) : FnOk P w K mg base CX0 3 (He.ga K "is_key") T.fd_is_key ["thing"] (sp_rng 0 1000000000) := by
  have G_is_between : FnOk P w K mg base CX0 2 (He.ga K "is_between") T.fd_is_between ["thing", "low", "high"] sp_is_between := ok_is_between T
  have b_is_between := b_is_between T
  refine T.F_is_key.ok sc_is_key (fun vs H Q E h => ?_) (fun cdv A outer st H vs Q E hr h => ?_)
  · obtain ⟨i, rfl, _⟩ := h
    rfl
  · obtain ⟨i, rfl, kq⟩ := h
    exact ⟨_, PSs.nox (pss_one (ps_ret (pe_call G_is_between (hr.mono (by first | decide | omega)) rfl T.g_is_between T.F_is_between.kp b_is_between .nil pass0 (pa_cons (pv 0) (pa_cons pe_int (pa_cons (pe_gint T.g_GREATEST) pa_nil)))))), _, rfl, i, 0, 1000000000, rfl, kq⟩
theorem ok_is_value (T : TX K mg) : FnOk P w K mg base CX0 3 (He.ga K "is_value") T.fd_is_value ["thing"] (sp_rng 0 1000000000) := by
  have G_is_between : FnOk P w K mg base CX0 2 (He.ga K "is_between") T.fd_is_between ["thing", "low", "high"] sp_is_between := ok_is_between T
  have b_is_between := b_is_between T
  refine T.F_is_value.ok sc_is_value (fun vs H Q E h => ?_) (fun cdv A outer st H vs Q E hr h => ?_)
  · obtain ⟨i, rfl, _⟩ := h
    rfl
  · obtain ⟨i, rfl, kq⟩ := h
    exact ⟨_, PSs.nox (pss_one (ps_ret (pe_call G_is_between (hr.mono (by first | decide | omega)) rfl T.g_is_between T.F_is_between.kp b_is_between .nil pass0 (pa_cons (pv 0) (pa_cons pe_int (pa_cons (pe_gint T.g_GREATEST) pa_nil)))))), _, rfl, i, 0, 1000000000, rfl, kq⟩
theorem ok_is_room (T : TX K mg) : FnOk P w K mg base CX0 3 (He.ga K "is_room") T.fd_is_room ["thing"] (sp_rng 3 8) := by
  have G_is_between : FnOk P w K mg base CX0 2 (He.ga K "is_between") T.fd_is_between ["thing", "low", "high"] sp_is_between := ok_is_between T
  have b_is_between := b_is_between T
  refine T.F_is_room.ok sc_is_room (fun vs H Q E h => ?_) (fun cdv A outer st H vs Q E hr h => ?_)
  · obtain ⟨i, rfl, _⟩ := h
    rfl
  · obtain ⟨i, rfl, kq⟩ := h
    exact ⟨_, PSs.nox (pss_one (ps_ret (pe_call G_is_between (hr.mono (by first | decide | omega)) rfl T.g_is_between T.F_is_between.kp b_is_between .nil pass0 (pa_cons (pv 0) (pa_cons (pe_gint T.g_LEAST_ROOM) (pa_cons (pe_gint T.g_GREATEST_ROOM) pa_nil)))))), _, rfl, i, 3, 8, rfl, kq⟩
theorem ok_is_page_number (T : TX K mg) : FnOk P w K mg base CX0 3 (He.ga K "is_page_number") T.fd_is_page_number ["thing"] (sp_rng 1 1000000) := by
  have G_is_between : FnOk P w K mg base CX0 2 (He.ga K "is_between") T.fd_is_between ["thing", "low", "high"] sp_is_between := ok_is_between T
  have b_is_between := b_is_between T
  refine T.F_is_page_number.ok sc_is_page_number (fun vs H Q E h => ?_) (fun cdv A outer st H vs Q E hr h => ?_)
  · obtain ⟨i, rfl, _⟩ := h
    rfl
  · obtain ⟨i, rfl, kq⟩ := h
    exact ⟨_, PSs.nox (pss_one (ps_ret (pe_call G_is_between (hr.mono (by first | decide | omega)) rfl T.g_is_between T.F_is_between.kp b_is_between .nil pass0 (pa_cons (pv 0) (pa_cons pe_int (pa_cons (pe_gint T.g_LAST_PAGE) pa_nil)))))), _, rfl, i, 1, 1000000, rfl, kq⟩
def sp_half_of : Sp := fun vs H Q _ => ∃ n : Nat, vs = [.int (n : Int)] ∧ Q (.int (((n + 1) / 2 : Nat) : Int)) H
theorem ok_half_of (T : TX K mg) : FnOk P w K mg base CX0 1 (He.ga K "half_of") T.fd_half_of ["room"] sp_half_of := by
  refine T.F_half_of.ok sc_half_of (fun vs H Q E h => ?_) (fun cdv A outer st H vs Q E hr h => ?_)
  · obtain ⟨n, rfl, _⟩ := h
    rfl
  · obtain ⟨n, rfl, kq⟩ := h
    refine ⟨_, PSs.nox (pss_one (ps_ret (pe_op op_fdivW (pe_op op_add (pv 0) pe_int) pe_int))), _, rfl, _, _, rfl, rfl, _, _, rfl, rfl, ⟨by decide, by decide⟩, ?_⟩
    have e : (((n + 1) / 2 : Nat) : Int) = ((n : Int) + 1) / 2 := by omega
    rw [e] at kq
    exact kq
def sp_is_pair : Sp := fun vs H Q _ => ∃ (x : V) (q : Int × Int), vs = [x] ∧ PrAt H x q ∧ GoodPr q ∧ Q (.bl true) H
theorem ok_is_pair (T : TX K mg) : FnOk P w K mg base CX0 4 (He.ga K "is_pair") T.fd_is_pair ["thing"] sp_is_pair := by
  have G_is_row : FnOk P w K mg base CX0 1 (He.ga K "is_row") T.fd_is_row ["thing", "many"] sp_is_row := ok_is_row T
  have b_is_row := b_is_row T
  have G_is_key : FnOk P w K mg base CX0 3 (He.ga K "is_key") T.fd_is_key ["thing"] (sp_rng 0 1000000000) := ok_is_key T
  have b_is_key := b_is_key T
  have G_is_value : FnOk P w K mg base CX0 3 (He.ga K "is_value") T.fd_is_value ["thing"] (sp_rng 0 1000000000) := ok_is_value T
  have b_is_value := b_is_value T
  refine T.F_is_pair.ok sc_is_pair (fun vs H Q E h => ?_) (fun cdv A outer st H vs Q E hr h => ?_)
  · obtain ⟨x, q, rfl, _⟩ := h
    rfl
  · obtain ⟨x, q, rfl, ⟨t, rfl, ht⟩, ⟨g1, g2, g3, g4⟩, kq⟩ := h
    refine ⟨_, PSs.nox (pss_one (ps_ret (pe_and (pe_call G_is_row (hr.mono (by first | decide | omega)) rfl T.g_is_row T.F_is_row.kp b_is_row .nil pass0 (pa_cons (pv 0) (pa_cons pe_int pa_nil))) (pe_and (pe_call G_is_key (hr.mono (by first | decide | omega)) rfl T.g_is_key T.F_is_key.kp b_is_key .nil pass0 (pa_cons (pe_ix ix_tup (pv 0) pe_int (fun _ _ => rfl)) pa_nil)) (pe_one (pe_call G_is_value (hr.mono (by first | decide | omega)) rfl T.g_is_value T.F_is_value.kp b_is_value .nil pass0 (pa_cons (pe_ix ix_tup (pv 0) pe_int (fun _ _ => rfl)) pa_nil))))))), ?_⟩
    refine ⟨_, rfl, t, _, _, rfl, ht, true, rfl, iteT ?_⟩
    refine ⟨_, rfl, t, _, _, _, rfl, rfl, SqT.of ht, rfl, q.1, rfl, ?_⟩
    rw [decide_eq_true g1, decide_eq_true g2]
    refine ⟨true, rfl, iteT ?_⟩
    refine ⟨_, rfl, t, _, _, _, rfl, rfl, SqT.of ht, rfl, q.2, rfl, ?_⟩
    rw [decide_eq_true g3, decide_eq_true g4]
    exact kq
end
end K29

namespace K29
open PySem PySem.Spec PyProof.Rows L2 RZ HX TR
theorem drop1 {xs : List V} (h : xs ≠ []) : ¬ (HT.sIx xs.length 0 (some 1) = 0 ∧ HT.sIx xs.length xs.length none = xs.length) := fun z => by
  have e : HT.sIx xs.length 0 (some ((1 : Nat) : Int)) = min 1 xs.length := HT.sIx_nat _ _ _
  have : xs.length ≠ 0 := fun q => h (List.eq_nil_of_length_eq_zero q)
  have z1 : HT.sIx xs.length 0 (some ((1 : Nat) : Int)) = 0 := z.1
  omega
section
variable {P : Program} {w : World} {K : PySem.W.Frag} {mg : Str → Option Value} {base : Heap}
def sp_are_pairs : Sp := fun vs H Q _ => ∃ (a : Addr) (ps : List (Int × Int)), vs = [.ref a] ∧ PrT H a ps ∧ (∀ q ∈ ps, GoodPr q) ∧ ps.length ≤ 1000 ∧ ∀ H', Same H H' → Q (.bl true) H'
theorem ok_are_pairs (T : TX K mg) : FnOk P w K mg base CX0 5 (He.ga K "are_pairs") T.fd_are_pairs ["thing"] sp_are_pairs := by
  have G_is_pair : FnOk P w K mg base CX0 4 (He.ga K "is_pair") T.fd_is_pair ["thing"] sp_is_pair := ok_is_pair T
  have b_is_pair := b_is_pair T
  refine T.F_are_pairs.ok sc_are_pairs (fun vs H Q E h => ?_) (fun cdv A outer st H vs Q E hr h => ?_)
  · obtain ⟨a, ps, rfl, _⟩ := h
    rfl
  · obtain ⟨a, ps, rfl, ⟨xs, ha, hp⟩, hg, hl, kq⟩ := h
    refine ⟨_, PSs.nox (pss_one (ps_ret (pe_and (pe_callB call_isi rfl T.n_isinstance (by decide +kernel) (pa_cons (pv 0) (pa_cons (pe_ty "tuple" T.n_tuple (by decide +kernel)) pa_nil))) (pe_one (pe_callB (cr_all rfl) rfl T.n_all (by decide +kernel) (pa_cons (pe_lc (own := [("pair", 1)]) (g := gName 1) (tt := tYes) rfl sc_are_pairs.nd (pi_tup (pv 0)) (blkOk_by (own := [("pair", 1)]) (N := ["thing", "pair"]) (sc := defScope s_are_pairs) (by decide +kernel)) (fun _ _ _ _ _ => (pg_name (i := 1) sc_are_pairs.nd rfl (Or.inl rfl))) (fun _ _ _ _ _ => pts_nil) (fun _ _ _ _ _ => (pe_call G_is_pair (hr.mono (by first | decide | omega)) rfl T.g_is_pair T.F_is_pair.kp b_is_pair .nil pass0 (pa_cons (pv 1) pa_nil)))) pa_nil)))))), ?_⟩
    refine ⟨_, rfl, _, _, .type "tuple", .type "tuple", true, rfl, .ty "tuple", ha.ty, kit_ty (by decide +kernel), true, rfl, iteT ?_⟩
    refine ⟨_, rfl, a, rfl, ⟨xs, ha.sq⟩, fun D hD => ?_⟩
    have hxl := Paired.length hp
    refine lc_it walk_tup (fun i H' => Same H H' ∧ H' D = some (.lst ((List.replicate i true).map V.bl))) ⟨same_new hD, upd_same⟩ (fun i H' _ z => (ha.same z.1).sq) ?_ ?_
    · rintro i x H3 H4 hi ⟨s3, hD3⟩ ⟨rfl, hx⟩
      obtain ⟨q, hq, hxq⟩ := pget1 hp hx
      refine ⟨rfl, ?_⟩
      dsimp only [tYes]
      rw [if_pos rfl]
      refine ⟨_, rfl, x, q, rfl, hxq.keep (Keep.of s3), hg q (List.mem_of_getElem? hq), _, hD3, ?_, same_upd s3 hD, ?_⟩
      · rw [List.length_map, List.length_replicate]
        exact Nat.lt_of_le_of_lt (by omega : i ≤ 1000) (by decide)
      · rw [upd_same, rep_snoc]
    · rintro H3 ⟨s3, hD3⟩
      refine ⟨D, _, rfl, SqL.of hD3, ?_⟩
      rw [rep_true]
      exact kq H3 s3
def sp_are_rising : Sp := fun vs H Q _ => ∃ (a : Addr) (ns : List Int), vs = [.ref a] ∧ (H a = some (.lst (ns.map V.int)) ∨ H a = some (.tup (ns.map V.int))) ∧ ns.Pairwise (· < ·) ∧ ns.length ≤ 1000 ∧ ∀ H', Same H H' → Q (.bl true) H'
theorem rise_at {ns : List Int} (h : ns.Pairwise (· < ·)) {i : Nat} {x y : V} (e1 : (ns.map V.int)[i]? = some x) (e2 : ((ns.map V.int).drop 1)[i]? = some y) : ∃ a b : Int, x = .int a ∧ y = .int b ∧ a < b := by
  obtain ⟨a, ha, rfl⟩ := map_at e1
  rw [← List.map_drop] at e2
  obtain ⟨b, hb, rfl⟩ := map_at e2
  rw [List.getElem?_drop] at hb
  obtain ⟨h1, h2⟩ := List.getElem?_eq_some_iff.mp ha
  obtain ⟨h3, h4⟩ := List.getElem?_eq_some_iff.mp hb
  exact ⟨a, b, rfl, rfl, by rw [← h2, ← h4]; exact List.pairwise_iff_getElem.mp h _ _ h1 h3 (by omega)⟩
theorem ok_are_rising (T : TX K mg) : FnOk P w K mg base CX0 1 (He.ga K "are_rising") T.fd_are_rising ["things"] sp_are_rising := by
  refine T.F_are_rising.ok sc_are_rising (fun vs H Q E h => ?_) (fun cdv A outer st H vs Q E hr h => ?_)
  · obtain ⟨a, ns, rfl, _⟩ := h
    rfl
  · obtain ⟨a, ns, rfl, ha, hp, hl, kq⟩ := h
    refine ⟨_, PSs.nox (pss_one (ps_ret (pe_callB (cr_all rfl) rfl T.n_all (by decide +kernel) (pa_cons (pe_lc (own := [("one", 1), ("other", 2)]) (g := gTup K 2 (gCons (gName 1) (gCons (gName 2) gNil))) (tt := tYes) rfl sc_are_rising.nd (pi_zipA rfl T.n_zip (pa_cons (pv 0) (pa_cons (pe_slice RU.sl_seq (pv 0) (po_some pe_int) po_none) pa_nil))) (blkOk_by (own := [("one", 1), ("other", 2)]) (N := ["things", "one", "other"]) (sc := defScope s_are_rising) (by decide +kernel)) (fun _ _ _ _ _ => (pg_tup rfl (pgs_cons (pg_name (i := 1) sc_are_rising.nd rfl (Or.inl rfl)) (pgs_cons (pg_name (i := 2) sc_are_rising.nd rfl (Or.inl rfl)) pgs_nil)))) (fun _ _ _ _ _ => pts_nil) (fun _ _ _ _ _ => (pe_cmpR op_lt (pv 1) (pv 2) (nomark _)))) pa_nil)))), ?_⟩
    have ec : cutV (ns.map V.int) (some 1) none = (ns.map V.int).drop 1 := cut_from' (n := 1)
    have lz : ns.length - 1 = min (ns.map V.int).length ((ns.map V.int).drop 1).length := by
      rw [List.length_drop, List.length_map]
      omega
    refine ⟨_, rfl, _, rfl, 1, rfl, ?_⟩
    rcases ha with ha | ha
    · refine .inl ⟨a, _, rfl, SqL.of ha, fun b hb => ?_⟩
      rw [ec]
      have nab := ne_of_none ha hb
      have s1 : Same H (upd H b (.lst ((ns.map V.int).drop 1))) := same_new hb
      have hb1 : upd H b (.lst ((ns.map V.int).drop 1)) b = some (.lst ((ns.map V.int).drop 1)) := upd_same
      generalize upd H b (.lst ((ns.map V.int).drop 1)) = H1 at s1 hb1
      refine ⟨a, b, _, _, rfl, .inl ⟨SqL.of (s1 _ _ ha), SqL.of hb1, fun D hD => ?_⟩⟩
      refine lc_it (walk_zip lz) (fun i H' => Same H1 H' ∧ H' D = some (.lst ((List.replicate i true).map V.bl))) ⟨same_new hD, upd_same⟩ (fun i H' _ z => ⟨SqL.of (z.1 _ _ (s1 _ _ ha)), SqL.of (z.1 _ _ hb1)⟩) ?_ ?_
      · rintro i x H3 H4 hi ⟨s3, hD3⟩ ⟨t, x1, x2, rfl, ht, rfl, e1, e2⟩
        obtain ⟨y1, y2, rfl, rfl, hlt⟩ := rise_at hp e1 e2
        have nDt := ne_of_none hD3 ht
        refine ⟨t, _, rfl, SqT.of upd_same, rfl, _, _, rfl, _, _, rfl, rfl, rfl, ?_⟩
        dsimp only [tYes]
        rw [if_pos rfl]
        refine ⟨_, rfl, _, rfl, _, _, rfl, rfl, _, same_new ht _ _ hD3, ?_, same_upd (s3.trans (same_new ht)) hD, ?_⟩
        · rw [List.length_map, List.length_replicate]
          exact Nat.lt_of_le_of_lt (by omega : i ≤ 1000) (by decide)
        · rw [upd_same, ← rep_snoc]
          show some (HO.lst (_ ++ [V.bl (decide (y1 < y2))])) = _
          rw [decide_eq_true hlt]
      · rintro H3 ⟨s3, hD3⟩
        refine ⟨D, _, rfl, SqL.of hD3, ?_⟩
        rw [rep_true]
        exact kq H3 (s1.trans s3)
    · have tail : ∀ (b : Addr) (H1 : Hp), Same H H1 → H1 b = some (.tup ((ns.map V.int).drop 1)) → ∀ D, H1 D = none → _ := fun b H1 s1 hb1 D hD =>
        lc_it (g := gTup K 2 (gCons (gName 1) (gCons (gName 2) gNil))) (tt := tYes) (te := tOp (rI0 fun i j => .bl (decide (i < j))) (tVar 1) (tVar 2)) (vs := [1, 2]) (σ := [some (.ref a), none, none]) (D := D) (H1 := H1) (RU.walk_zipT (K := K) (a := a) (b := b) lz)
          (Qd := fun H' => tNil [some (.ref a), none, none] H' fun xs H2 => rAll K (.ref D :: xs) H2 Q)
          (fun i H' => Same H1 H' ∧ H' D = some (.lst ((List.replicate i true).map V.bl))) ⟨same_new hD, upd_same⟩ (fun i H' _ z => ⟨SqT.of (z.1 _ _ (s1 _ _ ha)), SqT.of (z.1 _ _ hb1)⟩) (by
            rintro i x H3 H4 hi ⟨s3, hD3⟩ ⟨t, x1, x2, rfl, ht, rfl, e1, e2⟩
            obtain ⟨y1, y2, rfl, rfl, hlt⟩ := rise_at hp e1 e2
            have nDt := ne_of_none hD3 ht
            refine ⟨t, _, rfl, SqT.of upd_same, rfl, _, _, rfl, _, _, rfl, rfl, rfl, ?_⟩
            dsimp only [tYes]
            rw [if_pos rfl]
            refine ⟨_, rfl, _, rfl, _, _, rfl, rfl, _, same_new ht _ _ hD3, ?_, same_upd (s3.trans (same_new ht)) hD, ?_⟩
            · rw [List.length_map, List.length_replicate]
              exact Nat.lt_of_le_of_lt (by omega : i ≤ 1000) (by decide)
            · rw [upd_same, ← rep_snoc]
              show some (HO.lst (_ ++ [V.bl (decide (y1 < y2))])) = _
              rw [decide_eq_true hlt]) (by
            rintro H3 ⟨s3, hD3⟩
            refine ⟨D, _, rfl, SqL.of hD3, ?_⟩
            rw [rep_true]
            exact kq H3 (s1.trans s3))
      refine .inr ⟨a, _, rfl, SqT.of ha, fun z => ?_, fun z b hb => ?_⟩
      · have e0 : (ns.map V.int) = [] := Classical.byContradiction fun q => drop1 q z
        refine ⟨a, a, _, _, rfl, .inr ⟨SqT.of ha, SqT.of ha, fun D hD => ?_⟩⟩
        exact tail a H (Same.refl H) (by rw [e0] at ha ⊢; exact ha) D hD
      · rw [ec]
        refine ⟨a, b, _, _, rfl, .inr ⟨SqT.of (same_new hb _ _ ha), SqT.of upd_same, fun D hD => ?_⟩⟩
        exact tail b _ (same_new hb) upd_same D hD
def sp_are_rising_pairs : Sp := fun vs H Q _ => ∃ (a : Addr) (ps : List (Int × Int)), vs = [.ref a] ∧ PrT H a ps ∧ (∀ q ∈ ps, GoodPr q) ∧ ps.Pairwise (fun a b => a.1 < b.1) ∧ ps.length ≤ 1000 ∧ ∀ H', Same H H' → Q (.bl true) H'
theorem ok_are_rising_pairs (T : TX K mg) : FnOk P w K mg base CX0 6 (He.ga K "are_rising_pairs") T.fd_are_rising_pairs ["thing"] sp_are_rising_pairs := by
  have G_are_pairs : FnOk P w K mg base CX0 5 (He.ga K "are_pairs") T.fd_are_pairs ["thing"] sp_are_pairs := ok_are_pairs T
  have b_are_pairs := b_are_pairs T
  have G_are_rising : FnOk P w K mg base CX0 1 (He.ga K "are_rising") T.fd_are_rising ["things"] sp_are_rising := ok_are_rising T
  have b_are_rising := b_are_rising T
  refine T.F_are_rising_pairs.ok sc_are_rising_pairs (fun vs H Q E h => ?_) (fun cdv A outer st H vs Q E hr h => ?_)
  · obtain ⟨a, ps, rfl, _⟩ := h
    rfl
  · obtain ⟨a, ps, rfl, hT, hg, hp, hl, kq⟩ := h
    refine ⟨_, PSs.nox (pss_one (ps_ret (pe_and (pe_call G_are_pairs (hr.mono (by first | decide | omega)) rfl T.g_are_pairs T.F_are_pairs.kp b_are_pairs .nil pass0 (pa_cons (pv 0) pa_nil)) (pe_one (pe_call G_are_rising (hr.mono (by first | decide | omega)) rfl T.g_are_rising T.F_are_rising.kp b_are_rising .nil pass0 (pa_cons (pe_lc (own := [("pair", 1)]) (g := gName 1) (tt := tYes) rfl sc_are_rising_pairs.nd (pi_tup (pv 0)) (blkOk_by (own := [("pair", 1)]) (N := ["thing", "pair"]) (sc := defScope s_are_rising_pairs) (by decide +kernel)) (fun _ _ _ _ _ => (pg_name (i := 1) sc_are_rising_pairs.nd rfl (Or.inl rfl))) (fun _ _ _ _ _ => pts_nil) (fun _ _ _ _ _ => (pe_ix (ixt K) (pv 1) pe_int (fun _ _ => rfl)))) pa_nil)))))), ?_⟩
    refine ⟨_, rfl, a, ps, rfl, hT, hg, hl, fun H1 s1 => ⟨true, rfl, iteT ?_⟩⟩
    obtain ⟨xs, ha, hpx⟩ := hT.keep (Keep.of s1)
    have hxl := Paired.length hpx
    refine ⟨_, rfl, a, rfl, ⟨xs, ha.sq⟩, fun D hD => ?_⟩
    refine lc_it walk_tup (fun i H' => Same H1 H' ∧ H' D = some (.lst (((ps.take i).map (·.1)).map V.int))) ⟨same_new hD, upd_same⟩ (fun i H' _ z => (ha.same z.1).sq) ?_ ?_
    · rintro i x H3 H4 hi ⟨s3, hD3⟩ ⟨rfl, hx⟩
      obtain ⟨q, hq, t, rfl, ht⟩ := pget1 hpx hx
      refine ⟨rfl, ?_⟩
      dsimp only [tYes]
      rw [if_pos rfl]
      refine ⟨_, rfl, t, _, _, _, rfl, rfl, SqT.of (s3 _ _ ht), rfl, _, hD3, ?_, same_upd s3 hD, ?_⟩
      · rw [List.length_map, List.length_map, List.length_take]
        exact Nat.lt_of_le_of_lt (by omega : _ ≤ 1000) (by decide)
      · rw [upd_same, take_more hq, List.map_append, List.map_append]
        rfl
    · rintro H3 ⟨s3, hD3⟩
      rw [hxl, List.take_length] at hD3
      refine ⟨D, ps.map (·.1), rfl, .inl hD3, ?_, by rw [List.length_map]; exact hl, fun H5 s5 => kq H5 ((s1.trans s3).trans s5)⟩
      exact List.pairwise_map.mpr hp
end
end K29

namespace K29
open PySem PySem.Spec PyProof.Rows L2 RZ HX TR
/-- the text that stands first in a page -/
def Pg.name : Pg → Str
  | .leaf _ _ => "leaf"
  | .node _ _ => "node"
section
variable {P : Program} {w : World} {K : PySem.W.Frag} {mg : Str → Option Value} {base : Heap}
def sp_is_leaf : Sp := fun vs H Q _ => ∃ (v : V) (g : Pg), vs = [v] ∧ PgAt H v g ∧ PgOk g ∧ ∀ H', Same H H' → Q (.bl (Pg.isLeaf g)) H'
theorem ok_is_leaf (T : TX K mg) : FnOk P w K mg base CX0 7 (He.ga K "is_leaf") T.fd_is_leaf ["thing"] sp_is_leaf := by
  have G_is_row : FnOk P w K mg base CX0 1 (He.ga K "is_row") T.fd_is_row ["thing", "many"] sp_is_row := ok_is_row T
  have b_is_row := b_is_row T
  have G_are_rising_pairs : FnOk P w K mg base CX0 6 (He.ga K "are_rising_pairs") T.fd_are_rising_pairs ["thing"] sp_are_rising_pairs := ok_are_rising_pairs T
  have b_are_rising_pairs := b_are_rising_pairs T
  have G_is_between : FnOk P w K mg base CX0 2 (He.ga K "is_between") T.fd_is_between ["thing", "low", "high"] sp_is_between := ok_is_between T
  have b_is_between := b_is_between T
  refine T.F_is_leaf.ok sc_is_leaf (fun vs H Q E h => ?_) (fun cdv A outer st H vs Q E hr h => ?_)
  · obtain ⟨v, g, rfl, _⟩ := h
    rfl
  · obtain ⟨v, g, rfl, hv, hg, kq⟩ := h
    refine ⟨_, PSs.nox (pss_cons (ps_if (PW.pt (pw_or (pt_not (pt_val (pe_call G_is_row (hr.mono (by first | decide | omega)) rfl T.g_is_row T.F_is_row.kp b_is_row .nil pass0 (pa_cons (pv 0) (pa_cons pe_int pa_nil))))) (pw_or1 (pt_cmpR op_ne (pe_ix ix_tup (pv 0) pe_int (fun _ _ => rfl)) pe_str (nomark _)))))
 (pss_one (ps_ret pe_bl))
 pss_nil)
 (pss_one (ps_ret (pe_and (pe_call G_are_rising_pairs (hr.mono (by first | decide | omega)) rfl T.g_are_rising_pairs T.F_are_rising_pairs.kp b_are_rising_pairs .nil pass0 (pa_cons (pe_ix ix_tup (pv 0) pe_int (fun _ _ => rfl)) pa_nil)) (pe_one (pe_call G_is_between (hr.mono (by first | decide | omega)) rfl T.g_is_between T.F_is_between.kp b_is_between .nil pass0 (pa_cons (pe_ix ix_tup (pv 0) pe_int (fun _ _ => rfl)) (pa_cons pe_int (pa_cons (pe_gint T.g_LAST_PAGE) pa_nil))))))))), ?_⟩
    cases g with
    | leaf ps nx =>
      obtain ⟨t, q, rfl, ht, hT⟩ := hv
      obtain ⟨g1, g2, g3, g4, g5⟩ := hg
      refine ⟨_, rfl, t, _, _, rfl, ht, true, rfl, iteF ?_⟩
      refine ⟨_, rfl, t, _, _, _, rfl, rfl, SqT.of ht, rfl, rfl, _, rfl, iteF ?_⟩
      refine ⟨_, rfl, t, _, _, _, rfl, rfl, SqT.of ht, rfl, q, ps, rfl, hT, g1, g2, g5, fun H1 s1 => ⟨true, rfl, iteT ?_⟩⟩
      refine ⟨_, rfl, t, _, _, _, rfl, rfl, SqT.of (s1 _ _ ht), rfl, nx, 0, 1000000, rfl, ?_⟩
      rw [decide_eq_true g3, decide_eq_true g4]
      exact kq H1 s1
    | node ks kids =>
      obtain ⟨t, q1, q2, rfl, ht, _, _⟩ := hv
      refine ⟨_, rfl, t, _, _, rfl, ht, true, rfl, iteF ?_⟩
      refine ⟨_, rfl, t, _, _, _, rfl, rfl, SqT.of ht, rfl, rfl, _, rfl, iteT ?_⟩
      exact kq H (Same.refl H)
def sp_is_node : Sp := fun vs H Q _ => ∃ (v : V) (g : Pg), vs = [v] ∧ PgAt H v g ∧ PgOk g ∧ Pg.isLeaf g = false ∧ ∀ H', Same H H' → Q (.bl true) H'
theorem ok_is_node (T : TX K mg) : FnOk P w K mg base CX0 4 (He.ga K "is_node") T.fd_is_node ["thing"] sp_is_node := by
  have G_is_row : FnOk P w K mg base CX0 1 (He.ga K "is_row") T.fd_is_row ["thing", "many"] sp_is_row := ok_is_row T
  have b_is_row := b_is_row T
  have G_are_rising : FnOk P w K mg base CX0 1 (He.ga K "are_rising") T.fd_are_rising ["things"] sp_are_rising := ok_are_rising T
  have b_are_rising := b_are_rising T
  have G_is_key : FnOk P w K mg base CX0 3 (He.ga K "is_key") T.fd_is_key ["thing"] (sp_rng 0 1000000000) := ok_is_key T
  have b_is_key := b_is_key T
  have G_is_page_number : FnOk P w K mg base CX0 3 (He.ga K "is_page_number") T.fd_is_page_number ["thing"] (sp_rng 1 1000000) := ok_is_page_number T
  have b_is_page_number := b_is_page_number T
  refine T.F_is_node.ok sc_is_node (fun vs H Q E h => ?_) (fun cdv A outer st H vs Q E hr h => ?_)
  · obtain ⟨v, g, rfl, _⟩ := h
    rfl
  · obtain ⟨v, g, rfl, hv, hg, hl, kq⟩ := h
    refine ⟨_, PSs.nox (pss_cons (ps_if (PW.pt (pw_or (pt_not (pt_val (pe_call G_is_row (hr.mono (by first | decide | omega)) rfl T.g_is_row T.F_is_row.kp b_is_row .nil pass0 (pa_cons (pv 0) (pa_cons pe_int pa_nil))))) (pw_or1 (pt_cmpR op_ne (pe_ix ix_tup (pv 0) pe_int (fun _ _ => rfl)) pe_str (nomark _)))))
 (pss_one (ps_ret pe_bl))
 pss_nil)
 (pss_cons (ps_par (i := 1) (j := 2) rfl sc_is_node.nd rfl rfl (by decide) rfl rfl (pa_cons (pe_ix ix_tup (pv 0) pe_int (fun _ _ => rfl)) (pa_cons (pe_ix ix_tup (pv 0) pe_int (fun _ _ => rfl)) pa_nil)) rfl)
 (pss_cons (ps_if (PW.pt (pw_or (pt_not (pt_val (pe_callB call_isi rfl T.n_isinstance (by decide +kernel) (pa_cons (pv 1) (pa_cons (pe_ty "tuple" T.n_tuple (by decide +kernel)) pa_nil))))) (pw_or (pt_not (pt_val (pe_callB call_isi rfl T.n_isinstance (by decide +kernel) (pa_cons (pv 2) (pa_cons (pe_ty "tuple" T.n_tuple (by decide +kernel)) pa_nil))))) (pw_or1 (pt_cmpR op_ne (pe_op op_add (pe_callB call_len_seq rfl T.n_len PySem.boot_len (pa_cons (pv 1) pa_nil)) pe_int) (pe_callB call_len_seq rfl T.n_len PySem.boot_len (pa_cons (pv 2) pa_nil)) (nomark _))))))
 (pss_one (ps_ret pe_bl))
 pss_nil)
 (pss_cons (ps_if (PW.pt (pw_or (pt_not (pt_val (pe_callB (cr_all rfl) rfl T.n_all (by decide +kernel) (pa_cons (pe_lc (own := [("key", 3)]) (g := gName 3) (tt := tYes) rfl sc_is_node.nd (pi_tup (pv 1)) (blkOk_by (own := [("key", 3)]) (N := ["thing", "keys", "kids", "key", "kid"]) (sc := defScope s_is_node) (by decide +kernel)) (fun _ _ _ _ _ => (pg_name (i := 3) sc_is_node.nd rfl (Or.inl rfl))) (fun _ _ _ _ _ => pts_nil) (fun _ _ _ _ _ => (pe_call G_is_key (hr.mono (by first | decide | omega)) rfl T.g_is_key T.F_is_key.kp b_is_key .nil pass0 (pa_cons (pv 3) pa_nil)))) pa_nil)))) (pw_or1 (pt_not (pt_val (pe_callB (cr_all rfl) rfl T.n_all (by decide +kernel) (pa_cons (pe_lc (own := [("kid", 4)]) (g := gName 4) (tt := tYes) rfl sc_is_node.nd (pi_tup (pv 2)) (blkOk_by (own := [("kid", 4)]) (N := ["thing", "keys", "kids", "key", "kid"]) (sc := defScope s_is_node) (by decide +kernel)) (fun _ _ _ _ _ => (pg_name (i := 4) sc_is_node.nd rfl (Or.inl rfl))) (fun _ _ _ _ _ => pts_nil) (fun _ _ _ _ _ => (pe_call G_is_page_number (hr.mono (by first | decide | omega)) rfl T.g_is_page_number T.F_is_page_number.kp b_is_page_number .nil pass0 (pa_cons (pv 4) pa_nil)))) pa_nil)))))))
 (pss_one (ps_ret pe_bl))
 pss_nil)
 (pss_one (ps_ret (pe_call G_are_rising (hr.mono (by first | decide | omega)) rfl T.g_are_rising T.F_are_rising.kp b_are_rising .nil pass0 (pa_cons (pv 1) pa_nil)))))))), ?_⟩
    cases g with
    | leaf ps nx => cases hl
    | node ks kids =>
      obtain ⟨t, q1, q2, rfl, ht, h1, h2⟩ := hv
      obtain ⟨g1, g2, g3, g4, g5⟩ := hg
      refine ⟨_, rfl, t, _, _, rfl, ht, true, rfl, iteF ?_⟩
      refine ⟨_, rfl, t, _, _, _, rfl, rfl, SqT.of ht, rfl, rfl, _, rfl, iteF ?_⟩
      refine ⟨_, rfl, t, _, _, _, rfl, rfl, SqT.of ht, rfl, _, rfl, t, _, _, _, rfl, rfl, SqT.of ht, rfl, _, _, rfl, ?_⟩
      refine ⟨_, rfl, _, _, .type "tuple", .type "tuple", true, rfl, .ty "tuple", .base (.tup h1), kit_ty (by decide +kernel), true, rfl, iteF ?_⟩
      refine ⟨_, rfl, _, _, .type "tuple", .type "tuple", true, rfl, .ty "tuple", h2.ty, kit_ty (by decide +kernel), true, rfl, iteF ?_⟩
      refine ⟨_, rfl, q1, _, rfl, .inr (SqT.of h1), _, _, rfl, rfl, _, rfl, q2, _, rfl, .inr h2.sq, ?_⟩
      have e1 : (!decide (V.int (((ks.map V.int).length : Nat) + 1 : Int) = V.int (((kids.map V.int).length : Nat) : Int))) = false := by
        rw [List.length_map, List.length_map, show ((ks.length : Nat) : Int) + 1 = (kids.length : Int) by omega]
        simp
      refine ⟨rfl, _, rfl, ?_⟩
      refine (congrArg (fun b => (if b = true then _ else _)) e1).mpr ?_
      refine iteF ?_
      refine ⟨_, rfl, q1, rfl, ⟨_, SqT.of (h1)⟩, fun D1 hD1 => ?_⟩
      refine lc_it (walk_tup (xs := ks.map V.int)) (fun i H' => Same H H' ∧ H' D1 = some (.lst ((List.replicate i true).map V.bl))) ⟨same_new hD1, upd_same⟩ (fun i H' _ z => SqT.of (z.1 _ _ (h1))) ?_ ?_
      · rintro i x H3 H4 hi ⟨s3, hD3⟩ ⟨rfl, hx⟩
        obtain ⟨k, hk, rfl⟩ := map_at hx
        have hr2 := g2 k (List.mem_of_getElem? hk)
        refine ⟨rfl, ?_⟩
        dsimp only [tYes]
        rw [if_pos rfl]
        refine ⟨_, rfl, k, rfl, _, hD3, ?_, same_upd s3 hD1, ?_⟩
        · rw [List.length_map, List.length_replicate]
          rw [List.length_map] at hi
          exact Nat.lt_of_le_of_lt (by omega : i ≤ 1000) (by decide)
        · rw [upd_same, decide_eq_true hr2.1, decide_eq_true hr2.2, ← rep_snoc]
          rfl
      rintro H5 ⟨sH5, hDH5⟩
      refine ⟨D1, _, rfl, SqL.of hDH5, ?_⟩
      rw [rep_true]
      refine ⟨true, rfl, iteF ?_⟩
      refine ⟨_, rfl, q2, rfl, ⟨_, (h2.same sH5).sq⟩, fun D2 hD2 => ?_⟩
      refine lc_it (walk_tup (xs := kids.map V.int)) (fun i H' => Same H5 H' ∧ H' D2 = some (.lst ((List.replicate i true).map V.bl))) ⟨same_new hD2, upd_same⟩ (fun i H' _ z => ((h2.same sH5).same z.1).sq) ?_ ?_
      · rintro i x H3 H4 hi ⟨s3, hD3⟩ ⟨rfl, hx⟩
        obtain ⟨k, hk, rfl⟩ := map_at hx
        have hr2 := g3 k (List.mem_of_getElem? hk)
        refine ⟨rfl, ?_⟩
        dsimp only [tYes]
        rw [if_pos rfl]
        refine ⟨_, rfl, k, rfl, _, hD3, ?_, same_upd s3 hD2, ?_⟩
        · rw [List.length_map, List.length_replicate]
          rw [List.length_map] at hi
          exact Nat.lt_of_le_of_lt (by omega : i ≤ 1000) (by decide)
        · rw [upd_same, decide_eq_true hr2.1, decide_eq_true hr2.2, ← rep_snoc]
          rfl
      rintro H6 ⟨sH6, hDH6⟩
      refine ⟨D2, _, rfl, SqL.of hDH6, ?_⟩
      rw [rep_true]
      refine ⟨true, rfl, iteF ?_⟩
      exact ⟨_, rfl, q1, ks, rfl, .inr (sH6 _ _ (sH5 _ _ h1)), g1, by omega, fun H7 s7 => kq H7 ((sH5.trans sH6).trans s7)⟩
def sp_is_page : Sp := fun vs H Q _ => ∃ (v : V) (g : Pg), vs = [v] ∧ PgAt H v g ∧ PgOk g ∧ ∀ H', Same H H' → Q (.bl true) H'
theorem ok_is_page (T : TX K mg) : FnOk P w K mg base CX0 8 (He.ga K "is_page") T.fd_is_page ["thing"] sp_is_page := by
  have G_is_leaf : FnOk P w K mg base CX0 7 (He.ga K "is_leaf") T.fd_is_leaf ["thing"] sp_is_leaf := ok_is_leaf T
  have b_is_leaf := b_is_leaf T
  have G_is_node : FnOk P w K mg base CX0 4 (He.ga K "is_node") T.fd_is_node ["thing"] sp_is_node := ok_is_node T
  have b_is_node := b_is_node T
  refine T.F_is_page.ok sc_is_page (fun vs H Q E h => ?_) (fun cdv A outer st H vs Q E hr h => ?_)
  · obtain ⟨v, g, rfl, _⟩ := h
    rfl
  · obtain ⟨v, g, rfl, hv, hg, kq⟩ := h
    refine ⟨_, PSs.nox (pss_one (ps_ret (pe_or (pe_call G_is_leaf (hr.mono (by first | decide | omega)) rfl T.g_is_leaf T.F_is_leaf.kp b_is_leaf .nil pass0 (pa_cons (pv 0) pa_nil)) (pe_one (pe_call G_is_node (hr.mono (by first | decide | omega)) rfl T.g_is_node T.F_is_node.kp b_is_node .nil pass0 (pa_cons (pv 0) pa_nil)))))), ?_⟩
    refine ⟨_, rfl, v, g, rfl, hv, hg, fun H1 s1 => ⟨_, rfl, ?_⟩⟩
    cases c : Pg.isLeaf g with
    | true => exact iteT (kq H1 s1)
    | false => exact iteF ⟨_, rfl, v, g, rfl, hv.keep (Keep.of s1), hg, c, fun H2 s2 => kq H2 (s1.trans s2)⟩
def Pg.parts : Pg → Nat
  | .leaf ps _ => ps.length
  | .node _ kids => kids.length
def sp_parts_of (K : PySem.W.Frag) : Sp := fun vs H Q _ => ∃ (v : V) (g : Pg), vs = [v] ∧ PgAt H v g ∧ ∀ a xs, SqT K H a xs → xs.length = Pg.parts g → Q (.ref a) H
theorem ok_parts_of (T : TX K mg) : FnOk P w K mg base CX0 1 (He.ga K "parts_of") T.fd_parts_of ["page"] (sp_parts_of K) := by
  refine T.F_parts_of.ok sc_parts_of (fun vs H Q E h => ?_) (fun cdv A outer st H vs Q E hr h => ?_)
  · obtain ⟨v, g, rfl, _⟩ := h
    rfl
  · obtain ⟨v, g, rfl, hv, kq⟩ := h
    refine ⟨_, PSs.nox (pss_one (ps_ret (pe_ifExp (pt_cmpR op_eq (pe_ix ix_tup (pv 0) pe_int (fun _ _ => rfl)) pe_str (nomark _)) (pe_ix ix_tup (pv 0) pe_int (fun _ _ => rfl)) (pe_ix ix_tup (pv 0) pe_int (fun _ _ => rfl))))), ?_⟩
    cases g with
    | leaf ps nx =>
      obtain ⟨t, q, rfl, ht, xs, hq, hp⟩ := hv
      refine ⟨_, rfl, t, _, _, _, rfl, rfl, SqT.of ht, rfl, rfl, _, rfl, iteT ?_⟩
      exact ⟨_, rfl, t, _, _, _, rfl, rfl, SqT.of ht, rfl, kq q xs hq.sq (Paired.length hp)⟩
    | node ks kids =>
      obtain ⟨t, q1, q2, rfl, ht, h1, h2⟩ := hv
      refine ⟨_, rfl, t, _, _, _, rfl, rfl, SqT.of ht, rfl, rfl, _, rfl, iteF ?_⟩
      exact ⟨_, rfl, t, _, _, _, rfl, rfl, SqT.of ht, rfl, kq q2 _ h2.sq (List.length_map ..)⟩
def sp_is_numbered_page : Sp := fun vs H Q _ => ∃ (x : V) (q : Int × Pg), vs = [x] ∧ NumAt H x q ∧ 1 ≤ q.1 ∧ q.1 ≤ 1000000 ∧ PgOk q.2 ∧ ∀ H', Same H H' → Q (.bl true) H'
theorem ok_is_numbered_page (T : TX K mg) : FnOk P w K mg base CX0 9 (He.ga K "is_numbered_page") T.fd_is_numbered_page ["thing"] sp_is_numbered_page := by
  have G_is_row : FnOk P w K mg base CX0 1 (He.ga K "is_row") T.fd_is_row ["thing", "many"] sp_is_row := ok_is_row T
  have b_is_row := b_is_row T
  have G_is_page_number : FnOk P w K mg base CX0 3 (He.ga K "is_page_number") T.fd_is_page_number ["thing"] (sp_rng 1 1000000) := ok_is_page_number T
  have b_is_page_number := b_is_page_number T
  have G_is_page : FnOk P w K mg base CX0 8 (He.ga K "is_page") T.fd_is_page ["thing"] sp_is_page := ok_is_page T
  have b_is_page := b_is_page T
  refine T.F_is_numbered_page.ok sc_is_numbered_page (fun vs H Q E h => ?_) (fun cdv A outer st H vs Q E hr h => ?_)
  · obtain ⟨x, q, rfl, _⟩ := h
    rfl
  · obtain ⟨x, q, rfl, ⟨t, v, rfl, ht, hv⟩, h1, h2, hg, kq⟩ := h
    refine ⟨_, PSs.nox (pss_one (ps_ret (pe_and (pe_call G_is_row (hr.mono (by first | decide | omega)) rfl T.g_is_row T.F_is_row.kp b_is_row .nil pass0 (pa_cons (pv 0) (pa_cons pe_int pa_nil))) (pe_and (pe_call G_is_page_number (hr.mono (by first | decide | omega)) rfl T.g_is_page_number T.F_is_page_number.kp b_is_page_number .nil pass0 (pa_cons (pe_ix ix_tup (pv 0) pe_int (fun _ _ => rfl)) pa_nil)) (pe_one (pe_call G_is_page (hr.mono (by first | decide | omega)) rfl T.g_is_page T.F_is_page.kp b_is_page .nil pass0 (pa_cons (pe_ix ix_tup (pv 0) pe_int (fun _ _ => rfl)) pa_nil))))))), ?_⟩
    refine ⟨_, rfl, t, _, _, rfl, ht, true, rfl, iteT ?_⟩
    refine ⟨_, rfl, t, _, _, _, rfl, rfl, SqT.of ht, rfl, q.1, rfl, ?_⟩
    rw [decide_eq_true h1, decide_eq_true h2]
    refine ⟨true, rfl, iteT ?_⟩
    exact ⟨_, rfl, t, _, _, _, rfl, rfl, SqT.of ht, rfl, v, q.2, rfl, hv, hg, kq⟩
end
end K29

namespace K29
open PySem PySem.Spec PyProof.Rows L2 RZ HX TR
theorem sqF {K : PySem.W.Frag} {H : Hp} {a : Addr} {o : Obj} {xs : List V} (h : H a = some (.frz o (.tup xs))) : SqT K H a xs := .inl (.inr ⟨o, h⟩)
section
variable {P : Program} {w : World} {K : PySem.W.Frag} {mg : Str → Option Value} {base : Heap}
def sp_are_numbered_pages : Sp := fun vs H Q _ => ∃ (b : Addr) (o : Obj) (xs : List V) (S : List (Int × Pg)), vs = [.ref b] ∧ H b = some (.frz o (.tup xs)) ∧ Paired (NumAt H) xs S ∧ (∀ q ∈ S, 1 ≤ q.1 ∧ q.1 ≤ 1000000 ∧ PgOk q.2) ∧ S.Pairwise (fun a b => a.1 < b.1) ∧ S ≠ [] ∧ S.length ≤ 1000 ∧
  ∀ H', Same H H' → Q (.bl true) H'
theorem ok_are_numbered_pages (T : TX K mg) : FnOk P w K mg base CX0 10 (He.ga K "are_numbered_pages") T.fd_are_numbered_pages ["thing"] sp_are_numbered_pages := by
  have G_is_numbered_page : FnOk P w K mg base CX0 9 (He.ga K "is_numbered_page") T.fd_is_numbered_page ["thing"] sp_is_numbered_page := ok_is_numbered_page T
  have b_is_numbered_page := b_is_numbered_page T
  refine T.F_are_numbered_pages.ok sc_are_numbered_pages (fun vs H Q E h => ?_) (fun cdv A outer st H vs Q E hr h => ?_)
  · obtain ⟨b, o, xs, S, rfl, _⟩ := h
    rfl
  · obtain ⟨b, o, xs, S, rfl, hb, hp, hg, hs, hne, hl, kq⟩ := h
    refine ⟨_, PSs.nox (pss_cons (ps_if (PW.pt (pw_or (pt_not (pt_val (pe_callB call_isi rfl T.n_isinstance (by decide +kernel) (pa_cons (pv 0) (pa_cons (pe_ty "tuple" T.n_tuple (by decide +kernel)) pa_nil))))) (pw_or1 (pt_not (pt_val (pe_callB (cr_all rfl) rfl T.n_all (by decide +kernel) (pa_cons (pe_lc (own := [("part", 3)]) (g := gName 3) (tt := tYes) rfl sc_are_numbered_pages.nd (pi_tup (pv 0)) (blkOk_by (own := [("part", 3)]) (N := ["thing", "one", "other", "part"]) (sc := defScope s_are_numbered_pages) (by decide +kernel)) (fun _ _ _ _ _ => (pg_name (i := 3) sc_are_numbered_pages.nd rfl (Or.inl rfl))) (fun _ _ _ _ _ => pts_nil) (fun _ _ _ _ _ => (pe_call G_is_numbered_page (hr.mono (by first | decide | omega)) rfl T.g_is_numbered_page T.F_is_numbered_page.kp b_is_numbered_page .nil pass0 (pa_cons (pv 3) pa_nil)))) pa_nil)))))))
 (pss_one (ps_ret pe_bl))
 pss_nil)
 (pss_one (ps_ret (pe_callB (cr_all rfl) rfl T.n_all (by decide +kernel) (pa_cons (pe_lc (own := [("one", 1), ("other", 2)]) (g := gTup K 2 (gCons (gName 1) (gCons (gName 2) gNil))) (tt := tYes) rfl sc_are_numbered_pages.nd (pi_zipA rfl T.n_zip (pa_cons (pv 0) (pa_cons (pe_slice sl_tupA (pv 0) (po_some pe_int) po_none) pa_nil))) (blkOk_by (own := [("one", 1), ("other", 2)]) (N := ["thing", "one", "other", "part"]) (sc := defScope s_are_numbered_pages) (by decide +kernel)) (fun _ _ _ _ _ => (pg_tup rfl (pgs_cons (pg_name (i := 1) sc_are_numbered_pages.nd rfl (Or.inl rfl)) (pgs_cons (pg_name (i := 2) sc_are_numbered_pages.nd rfl (Or.inl rfl)) pgs_nil)))) (fun _ _ _ _ _ => pts_nil) (fun _ _ _ _ _ => (pe_cmpR op_lt (pe_ix (ixt K) (pv 1) pe_int (fun _ _ => rfl)) (pe_ix (ixt K) (pv 2) pe_int (fun _ _ => rfl)) (nomark _)))) pa_nil))))), ?_⟩
    have hxl := Paired.length hp
    have xne : xs ≠ [] := fun e => hne (List.eq_nil_of_length_eq_zero (by rw [← hxl, e]; rfl))
    refine ⟨_, rfl, _, _, .type "tuple", .type "tuple", true, rfl, .ty "tuple", .fTuple hb, kit_ty (by decide +kernel), true, rfl, iteF ?_⟩
    refine ⟨_, rfl, b, rfl, ⟨_, sqF hb⟩, fun D hD => ?_⟩
    refine lc_it (walk_tup (xs := xs)) (fun i H' => Same H H' ∧ H' D = some (.lst ((List.replicate i true).map V.bl))) ⟨same_new hD, upd_same⟩ (fun i H' _ z => sqF (z.1 _ _ hb)) ?_ ?_
    · rintro i x H3 H4 hi ⟨s3, hD3⟩ ⟨rfl, hx⟩
      obtain ⟨q, hq, hxq⟩ := pget1 hp hx
      obtain ⟨g1, g2, g3⟩ := hg q (List.mem_of_getElem? hq)
      refine ⟨rfl, ?_⟩
      dsimp only [tYes]
      rw [if_pos rfl]
      refine ⟨_, rfl, x, q, rfl, hxq.keep (Keep.of s3), g1, g2, g3, fun H5 s5 => ⟨_, s5 _ _ hD3, ?_, same_upd (s3.trans s5) hD, ?_⟩⟩
      · rw [List.length_map, List.length_replicate]
        exact Nat.lt_of_le_of_lt (by omega : i ≤ 1000) (by decide)
      · rw [upd_same, rep_snoc]
    rintro H5 ⟨s5, hD5⟩
    refine ⟨D, _, rfl, SqL.of hD5, ?_⟩
    rw [rep_true]
    refine ⟨true, rfl, iteF ?_⟩
    have hb5 := s5 _ _ hb
    have ec : cutV xs (some 1) none = xs.drop 1 := cut_from' (n := 1)
    have lz : xs.length - 1 = min xs.length (xs.drop 1).length := by
      rw [List.length_drop]
      omega
    refine ⟨_, rfl, _, rfl, 1, rfl, b, _, rfl, sqF hb5, (fun z => (drop1 xne z).elim), fun _ c hc => ?_⟩
    rw [ec]
    have s6 : Same H5 (upd H5 c (.tup (xs.drop 1))) := same_new hc
    have hc6 : upd H5 c (.tup (xs.drop 1)) c = some (.tup (xs.drop 1)) := upd_same
    generalize upd H5 c (.tup (xs.drop 1)) = H6 at s6 hc6
    refine ⟨b, c, _, _, rfl, .inr ⟨sqF (s6 _ _ hb5), SqT.of hc6, fun D2 hD2 => ?_⟩⟩
    refine lc_it (RU.walk_zipT lz) (fun i H' => Same H6 H' ∧ H' D2 = some (.lst ((List.replicate i true).map V.bl))) ⟨same_new hD2, upd_same⟩ (fun i H' _ z => ⟨sqF (z.1 _ _ (s6 _ _ hb5)), SqT.of (z.1 _ _ hc6)⟩) ?_ ?_
    · rintro i x H3 H4 hi ⟨s3, hD3⟩ ⟨t, x1, x2, rfl, ht, rfl, e1, e2⟩
      dsimp only at e1 e2
      rw [List.getElem?_drop] at e2
      obtain ⟨q1, hq1, t1, v1, rfl, ht1, _⟩ := pget1 hp e1
      obtain ⟨q2, hq2, t2, v2, rfl, ht2, _⟩ := pget1 hp e2
      have hlt : q1.1 < q2.1 := by
        obtain ⟨a1, a2⟩ := List.getElem?_eq_some_iff.mp hq1
        obtain ⟨b1, b2⟩ := List.getElem?_eq_some_iff.mp hq2
        rw [← a2, ← b2]
        exact List.pairwise_iff_getElem.mp hs _ _ a1 b1 (by omega)
      have s04 : Same H (upd H3 t (.tup [.ref t1, .ref t2])) := ((s5.trans s6).trans s3).trans (same_new ht)
      refine ⟨t, _, rfl, SqT.of upd_same, rfl, _, _, rfl, _, _, rfl, rfl, rfl, ?_⟩
      dsimp only [tYes]
      rw [if_pos rfl]
      refine ⟨_, rfl, t1, _, _, _, rfl, rfl, SqT.of (s04 _ _ ht1), rfl, _, rfl, t2, _, _, _, rfl, rfl, SqT.of (s04 _ _ ht2), rfl, _, _, rfl, rfl, _, same_new ht _ _ hD3, ?_, same_upd (s3.trans (same_new ht)) hD2, ?_⟩
      · rw [List.length_map, List.length_replicate]
        exact Nat.lt_of_le_of_lt (by omega : i ≤ 1000) (by decide)
      · rw [upd_same, ← rep_snoc]
        show some (HO.lst (_ ++ [V.bl (decide (q1.1 < q2.1))])) = _
        rw [decide_eq_true hlt]
    · rintro H7 ⟨s7, hD7⟩
      refine ⟨D2, _, rfl, SqL.of hD7, ?_⟩
      rw [rep_true]
      exact kq H7 ((s5.trans s6).trans s7)
end
end K29

namespace K29
open PySem PySem.Spec PyProof.Rows L2 RZ HX TR
section
variable {P : Program} {w : World} {K : PySem.W.Frag} {mg : Str → Option Value} {base : Heap}
/-- how many keys are not above the key -/
def placeOf (ks : List Int) (k : Int) : Nat := (ks.filter fun x => decide (x ≤ k)).length
def sp_kid_place : Sp := fun vs H Q _ => ∃ (a : Addr) (ks : List Int) (k : Int), vs = [.ref a, .int k] ∧ H a = some (.tup (ks.map V.int)) ∧ ks.length ≤ 1000 ∧ ∀ H', Same H H' → Q (.int (placeOf ks k : Nat)) H'
theorem ok_kid_place (T : TX K mg) : FnOk P w K mg base CX0 1 (He.ga K "kid_place") T.fd_kid_place ["keys", "key"] sp_kid_place := by
  refine T.F_kid_place.ok sc_kid_place (fun vs H Q E h => ?_) (fun cdv A outer st H vs Q E hr h => ?_)
  · obtain ⟨a, ks, k, rfl, _⟩ := h
    rfl
  · obtain ⟨a, ks, k, rfl, ha, hl, kq⟩ := h
    refine ⟨_, PSs.nox (pss_one (ps_ret (pe_callB call_len_seq rfl T.n_len PySem.boot_len (pa_cons (pe_lc (own := [("one", 2)]) (g := gName 2) (tt := _) rfl sc_kid_place.nd (pi_tup (pv 0)) (blkOk_by (own := [("one", 2)]) (N := ["keys", "key", "one"]) (sc := defScope s_kid_place) (by decide +kernel)) (fun _ _ _ _ _ => (pg_name (i := 2) sc_kid_place.nd rfl (Or.inl rfl))) (fun _ _ _ _ _ => pts_one (pt_cmpR op_le (pv 2) (pv 1) (nomark _))) (fun _ _ _ _ _ => (pv 2))) pa_nil)))), ?_⟩
    refine ⟨_, rfl, a, rfl, ⟨_, SqT.of ha⟩, fun D hD => ?_⟩
    refine lc_it (walk_tup (xs := ks.map V.int)) (fun i H' => Same H H' ∧ H' D = some (.lst (((ks.take i).filter fun x => decide (x ≤ k)).map V.int))) ⟨same_new hD, upd_same⟩ (fun i H' _ z => SqT.of (z.1 _ _ ha)) ?_ ?_
    · rintro i x H3 H4 hi ⟨s3, hD3⟩ ⟨rfl, hx⟩
      obtain ⟨y, hy, rfl⟩ := map_at hx
      refine ⟨rfl, ?_⟩
      refine ⟨_, rfl, _, rfl, _, _, rfl, rfl, _, rfl, ?_⟩
      rw [List.length_map] at hi
      cases c : decide (y ≤ k) with
      | true =>
        refine iteT ⟨_, rfl, _, hD3, ?_, same_upd s3 hD, ?_⟩
        · rw [List.length_map]
          have z := List.length_filter_le (fun x => decide (x ≤ k)) (ks.take i)
          rw [List.length_take] at z
          exact Nat.lt_of_le_of_lt (by omega : _ ≤ 1000) (by decide)
        · rw [upd_same, take_more hy, List.filter_append, List.map_append]
          simp [of_decide_eq_true c]
      | false =>
        refine iteF ⟨s3, ?_⟩
        rw [take_more hy, List.filter_append, hD3]
        simp [of_decide_eq_false c]
    · rintro H3 ⟨s3, hD3⟩
      rw [List.length_map, List.take_length] at hD3
      refine ⟨D, _, rfl, .inl (SqL.of hD3), ?_⟩
      rw [List.length_map]
      exact kq H3 s3
end
end K29

namespace K29
open PySem PySem.Spec PyProof.Rows L2 RZ HX TR
def seenE (ks : List Int) : List (Key × V) := ks.map fun k => ((.inl k : Key), V.bl true)
theorem seen_none {ks : List Int} {n : Int} (h : n ∉ ks) : valV (seenE ks) (.inl n) = none := by
  unfold valV
  rw [List.find?_eq_none.mpr]
  · rfl
  · intro x hx
    obtain ⟨k, hk, rfl⟩ := List.mem_map.mp hx
    intro e
    have e2 := of_decide_eq_true e
    injection e2 with e3
    exact h (e3 ▸ hk)
theorem seen_put {ks : List Int} {n : Int} (h : n ∉ ks) : putK (seenE ks) (.inl n) (.bl true) = seenE (ks ++ [n]) := by
  rw [RU.putK_new (fun q hq e => ?_)]
  · unfold seenE
    rw [List.map_append]
    rfl
  · obtain ⟨k, hk, rfl⟩ := List.mem_map.mp hq
    injection e with e3
    exact h (e3 ▸ hk)
def RowAt (H : Hp) (lv : Addr) (v : V) (r : List Int) : Prop := ∃ b, v = .ref b ∧ b ≠ lv ∧ H b = some (.lst (r.map V.int))
def LevAt (H : Hp) (lv : Addr) (R : List (List Int)) : Prop := ∃ vs : List V, H lv = some (.lst vs) ∧ Paired (RowAt H lv) vs R
theorem RowAt.upd {H : Hp} {lv p : Addr} {o : HO} {v : V} {r : List Int} (h : RowAt H lv v r) (hp : ∀ xs, H p ≠ some (.lst xs)) : RowAt (upd H p o) lv v r := by
  obtain ⟨b, e, n, h1⟩ := h
  exact ⟨b, e, n, by rw [upd_ne (fun z => hp _ (z ▸ h1))]; exact h1⟩
theorem LevAt.upd {H : Hp} {lv p : Addr} {o : HO} {R : List (List Int)} (h : LevAt H lv R) (hp : ∀ xs, H p ≠ some (.lst xs)) : LevAt (upd H p o) lv R := by
  obtain ⟨vs, h1, h2⟩ := h
  exact ⟨vs, by rw [upd_ne (fun z => hp _ (z ▸ h1))]; exact h1, paired_imp (fun _ _ r => RowAt.upd r hp) h2⟩
theorem LevAt.same {H H' : Hp} {lv : Addr} {R : List (List Int)} (h : LevAt H lv R) (s : Same H H') : LevAt H' lv R := by
  obtain ⟨vs, h1, h2⟩ := h
  exact ⟨vs, s _ _ h1, paired_imp (fun _ _ ⟨b, e, n, h⟩ => ⟨b, e, n, s _ _ h⟩) h2⟩
theorem laid_some {S : List (Int × Pg)} : ∀ {m : Nat} {u : Tr m}, Laid S m u → ∃ g, lkp S (num m u) = some g
  | 0, _, ⟨_, h⟩ => ⟨_, h⟩
  | _ + 1, _, ⟨h, _⟩ => ⟨_, h⟩
/-- the page that stands at the number -/
def pgv (es : List (Key × V)) (k : Int) : V := (valV es (.inl k)).getD .non
theorem pgv_ok {H : Hp} {d : Addr} {es : List (Key × V)} {D : List (Int × Pg)} (h1 : H d = some (.dK es)) (h2 : Paired (EnAt H) es D) {k : Int} {g : Pg} (e : lkp D k = some g) : DGet H d (.int k) (some (pgv es k)) ∧ PgAt H (pgv es k) g := by
  rcases valV_of (k := k) h2 with ⟨z, _⟩ | ⟨g', v, z, hv, hg⟩
  · rw [z] at e
    cases e
  · rw [z] at e
    cases e
    have e2 : pgv es k = v := by
      unfold pgv
      rw [hv]
      rfl
    rw [e2]
    exact ⟨hv ▸ DGet.k (k := .inl k) h1, hg⟩
section
variable {P : Program} {w : World} {K : PySem.W.Frag} {mg : Str → Option Value} {base : Heap}
def sp_levels_from : Sp := fun vs H Q _ => ∃ (l : Nat) (t : Tr l) (S : List (Int × Pg)) (d : Addr), vs = [.int (num l t), .ref d] ∧ DctAt H d S ∧ Laid S l t ∧ KeyOk l t ∧ (nums l t).Nodup ∧ S.length = (nums l t).length ∧ S.length ≤ 1000 ∧ l ≤ 100 ∧
  ∀ (H' : Hp) (a : Addr), Same H H' → LevAt H' a (rows l [t]) → Q (.ref a) H'
theorem ok_levels_from (T : TX K mg) : FnOk P w K mg base CX0 1 (He.ga K "levels_from") T.fd_levels_from ["root", "pages"] sp_levels_from := by
  refine T.F_levels_from.ok sc_levels_from (fun vs H Q E h => ?_) (fun cdv A outer st H vs Q E hr h => ?_)
  · obtain ⟨l, t, S, d, rfl, _⟩ := h
    rfl
  · obtain ⟨l, t, S, d, rfl, ⟨es, hd, hde⟩, hL, hK, nd, hlen, few, hl, kq⟩ := h
    refine ⟨_, PSs.nox (pss_cons (ps_set (i := 2) sc_levels_from.nd rfl (Or.inl rfl) pe_dnewK)
 (pss_cons (ps_set (i := 3) sc_levels_from.nd rfl (Or.inl rfl) (pe_lst pa_nil))
 (pss_cons (ps_set (i := 4) sc_levels_from.nd rfl (Or.inl rfl) (pe_lst (pa_cons (pv 0) pa_nil)))
 (pss_cons (ps_while PassesOwn.never (pt_truth (pv 4) (by intro _; rfl))
 (pss_cons (ps_for PassesOwn.never rfl (pi_list (pv 4)) (pg_name (i := 5) sc_levels_from.nd rfl (Or.inl rfl))
 (pss_cons (ps_if (PW.pt (pw_or (pt_cmp (pc_dnotin (hu_of hr) (pv 5) (pv 1))) (pw_or1 (pt_cmp (pc_din (hu_of hr) (pv 5) (pv 2))))))
 (pss_one (ps_ret pe_non))
 pss_nil)
 (pss_one (ps_dput (hu_of hr) (pv 2) (pv 5) pe_bl rfl))))
 (pss_cons (ps_expr (pe_bm PySem.F.plainAttrs_list PySem.F.slot_list_append PySem.F.type_list_append mt_append (pv 3) (pa_cons (pv 4) pa_nil)))
 (pss_cons (ps_setLc (i := 6) (own := [("number", 5)]) (g := gName 5) (tt := _) rfl sc_levels_from.nd rfl rfl (sw_true rfl rfl rfl (by decide +kernel)) (pi_list (pv 4)) (blkOk_by (own := [("number", 5)]) (N := ["root", "pages", "seen", "levels", "level", "number", "nodes", "node", "kid"]) (sc := defScope s_levels_from) (by decide +kernel)) (fun _ _ _ _ _ => (pg_name (i := 5) sc_levels_from.nd rfl (Or.inl rfl))) (fun _ _ _ _ _ => pts_one (pt_cmpR op_eq (pe_ix (ixt K) (pe_dget (hu_of hr) (pv 1) (pv 5) (fun _ _ => rfl)) pe_int (fun _ _ => rfl)) pe_str (nomark _))) (fun _ _ _ _ _ => (pe_dget (hu_of hr) (pv 1) (pv 5) (fun _ _ => rfl))))
 (pss_cons (ps_if (PW.pt (pw_and (pt_truth (pv 6) (by intro _; rfl)) (pw_and1 (pt_cmpR op_lt (pe_callB call_len_seq rfl T.n_len PySem.boot_len (pa_cons (pv 6) pa_nil)) (pe_callB call_len_seq rfl T.n_len PySem.boot_len (pa_cons (pv 4) pa_nil)) (nomark _)))))
 (pss_one (ps_ret pe_non))
 pss_nil)
 (pss_one (ps_setLc2 (i := 4) (own := [("node", 7), ("kid", 8)]) (vs1 := [8]) (g := gName 7) (g1 := gName 8) (tt := tYes) (tt1 := tYes) rfl sc_levels_from.nd rfl rfl (sw_true rfl rfl rfl (by decide +kernel)) (pi_list (pv 6)) (blkOk_by (own := [("node", 7), ("kid", 8)]) (N := ["root", "pages", "seen", "levels", "level", "number", "nodes", "node", "kid"]) (sc := defScope s_levels_from) (by decide +kernel)) (by decide) (fun _ _ _ _ _ => (pg_name (i := 7) sc_levels_from.nd rfl (Or.inl rfl))) (fun _ _ _ _ _ => pts_nil) (fun _ _ _ _ _ => (RU.pi_tupK K (pe_ix (ixt K) (pv 7) pe_int (fun _ _ => rfl)))) (fun _ _ _ _ _ => (pg_name (i := 8) sc_levels_from.nd rfl (Or.inl rfl))) (fun _ _ _ _ _ => pts_nil) (fun _ _ _ _ _ => (pv 8)))))))))
 (pss_one (ps_ret (pe_ifExp (pt_cmpR op_eq (pe_callB call_lenD rfl T.n_len PySem.boot_len (pa_cons (pv 2) pa_nil)) (pe_callB call_lenD rfl T.n_len PySem.boot_len (pa_cons (pv 1) pa_nil)) (nomark _)) (pv 3) pe_non))))))), ?_⟩
    refine fun ds hds => ⟨Nat.zero_le _, fun lv hlv => ?_⟩
    refine ⟨_, rfl, by show 1 ≤ sizeLine; decide, fun a0 ha0 => ?_⟩
    have n1 : ds ≠ lv := ne_of_none (upd_same : upd H ds (.dK []) ds = _) hlv
    have s1 : Same H (upd (upd H ds (.dK [])) lv (.lst [])) := (same_new hds).trans (same_new hlv)
    have hds1 : upd (upd H ds (.dK [])) lv (.lst []) ds = some (.dK []) := by rw [upd_ne n1]; exact upd_same
    have hlv1 : upd (upd H ds (.dK [])) lv (.lst []) lv = some (.lst []) := upd_same
    generalize upd (upd H ds (.dK [])) lv (.lst []) = H1 at s1 hds1 hlv1 ha0
    have s2 := s1.trans (same_new (o := .lst [.int (num l t)]) ha0)
    have hds2 := same_new (o := .lst [.int (num l t)]) ha0 _ _ hds1
    have hlv2 := same_new (o := .lst [.int (num l t)]) ha0 _ _ hlv1
    have ha2 : upd H1 a0 (.lst [.int (num l t)]) a0 = some (.lst [.int (num l t)]) := upd_same
    have na0 : a0 ≠ lv := (ne_of_none hlv1 ha0).symm
    have hRlen : (rows l [t]).flatten.Perm (nums l t) := by
      have z := rows_perm [t]
      simpa using z
    have ndR : (rows l [t]).flatten.Nodup := hRlen.nodup_iff.mpr nd
    have nds : ∀ b o, H b = some o → b ≠ ds := fun b o e => ne_of_none e hds
    refine ⟨fun k σ H' => ∃ (a : Addr) (cur : List Int) (v5 v6 v7 v8 : Option V) (done : List (List Int)), σ = [some (.int (num l t)), some (.ref d), some (.ref ds), some (.ref lv), some (.ref a), v5, v6, v7, v8] ∧ Same H H' ∧ a ≠ lv ∧ H' a = some (.lst (cur.map V.int)) ∧ H' ds = some (.dK (seenE done.flatten)) ∧ LevAt H' lv done ∧
      ((k = 0 ∧ cur = [] ∧ done = rows l [t]) ∨ ∃ (m : Nat) (F : List (Tr m)), k = m + 1 ∧ cur = F.map (num m) ∧ F ≠ [] ∧ (∀ u ∈ F, Laid S m u) ∧ (∀ u ∈ F, KeyOk m u) ∧ done ++ rows m F = rows l [t]),
      ⟨l + 1, a0, [num l t], _, _, _, _, [], rfl, s2, na0, ha2, hds2, ⟨[], hlv2, .nil⟩, .inr ⟨l, [t], rfl, rfl, by simp, fun u hu => by rw [List.mem_singleton.mp hu]; exact hL, fun u hu => by rw [List.mem_singleton.mp hu]; exact hK, rfl⟩⟩, ?_⟩
    rintro k σ H3 ⟨a, cur, v5, v6, v7, v8, done, rfl, s3, na, ha3, hds3, hlv3, hcase⟩
    have hd3 := s3 _ _ hd
    have hde3 := paired_imp (fun _ _ (r : EnAt H _ _) => (⟨r.1, r.2.keep (Keep.of s3)⟩ : EnAt H3 _ _)) hde
    refine ⟨_, rfl, !(cur.map V.int).isEmpty, .inl ⟨_, SqL.of ha3, rfl⟩, ?_⟩
    rcases hcase with ⟨rfl, rfl, rfl⟩ | ⟨m, F, rfl, rfl, hF, hFL, hFK, hdone⟩
    · refine iteF ?_
      have e2 : decide (V.int ((seenE (rows l [t]).flatten).length : Int) = V.int (es.length : Int)) = true := by
        have z1 := hRlen.length_eq
        have z2 := Paired.length hde
        refine decide_eq_true ?_
        congr 1
        unfold seenE
        rw [List.length_map]
        omega
      refine ⟨_, rfl, ds, _, rfl, hds3, _, rfl, d, _, rfl, hd3, rfl, _, rfl, ?_⟩
      refine (congrArg (fun b => (if b = true then _ else _)) e2).mpr (iteT ?_)
      exact ⟨_, rfl, kq _ _ s3 hlv3⟩
    · have e1 : (!((F.map (num m)).map V.int).isEmpty) = true := by
        cases F with
        | nil => exact (hF rfl).elim
        | cons u F => rfl
      rw [e1]
      refine iteT ?_
      refine ⟨_, fun σ' H' h => ⟨m, Nat.lt_succ_self m, h⟩, ?_⟩
      obtain ⟨r, hrw⟩ := rows_cons F
      have hnd : (done.flatten ++ F.map (num m)).Nodup := by
        have z := ndR
        rw [← hdone, hrw, List.flatten_append, List.flatten_cons, ← List.append_assoc] at z
        exact (List.nodup_append.mp z).1
      have hlenR : (done.flatten ++ F.map (num m)).length ≤ 1000 := by
        have z := hRlen.length_eq
        rw [← hdone, hrw, List.flatten_append, List.flatten_cons, ← List.append_assoc, List.length_append] at z
        omega
      have hdl : done.length ≤ 101 := by
        have z := congrArg List.length hdone
        rw [List.length_append, rows_len, rows_len] at z
        omega
      refine ⟨_, rfl, a, rfl, ⟨_, SqL.of ha3⟩, ?_⟩
      refine for_list (xs := (F.map (num m)).map V.int) (fun i σ H' => ∃ v5', σ = [some (.int (num l t)), some (.ref d), some (.ref ds), some (.ref lv), some (.ref a), v5', v6, v7, v8] ∧ Same H H' ∧ H' a = some (.lst ((F.map (num m)).map V.int)) ∧
        H' ds = some (.dK (seenE (done.flatten ++ (F.map (num m)).take i))) ∧ LevAt H' lv done) ⟨v5, rfl, s3, ha3, by rw [List.take_zero, List.append_nil]; exact hds3, hlv3⟩ (fun i σ H' _ z => ?_) ?_ ?_
      · obtain ⟨_, _, _, z, _⟩ := z
        exact SqL.of z
      · rintro i x σ H4 hx ⟨v5', rfl, s4, ha4, hds4, hlv4⟩
        obtain ⟨n, hn, rfl⟩ := map_at hx
        obtain ⟨u, hu, rfl⟩ := map_at hn
        have hnn : num m u ∉ done.flatten ++ (F.map (num m)).take i := fun z => by
          have z2 := hnd
          rw [← List.take_append_drop (i + 1) (F.map (num m)), take_more hn, ← List.append_assoc, ← List.append_assoc] at z2
          have z3 := (List.nodup_append.mp (List.nodup_append.mp z2).1).2.2
          exact z3 _ z _ (List.mem_singleton.mpr rfl) rfl
        obtain ⟨g, hg⟩ := laid_some (hFL u (List.mem_of_getElem? hu))
        have hde4 := paired_imp (fun _ _ (r : EnAt H _ _) => (⟨r.1, r.2.keep (Keep.of s4)⟩ : EnAt H4 _ _)) hde
        have hv := (pgv_ok (s4 _ _ hd) hde4 hg).1
        refine ⟨_, rfl, _, rfl, d, _, rfl, hv, _, rfl, iteF ?_⟩
        refine ⟨_, rfl, _, rfl, ds, none, rfl, seen_none hnn ▸ DGet.k (k := .inl (num m u)) hds4, _, rfl, iteF ?_⟩
        refine ⟨_, rfl, _, rfl, ds, _, rfl, DPut.k (k := .inl (num m u)) hds4 ?_, ?_⟩
        · unfold seenE
          rw [List.length_map, List.length_append, List.length_take]
          rw [List.length_append] at hlenR
          exact Nat.lt_of_le_of_lt (by omega : _ ≤ 1000) (by decide)
        · rw [seen_put hnn]
          refine ⟨_, rfl, fun b o e => ?_, ?_, ?_, hlv4.upd fun xs e => by rw [hds4] at e; cases e⟩
          · rw [upd_ne (nds b o e)]
            exact s4 b o e
          · rw [upd_ne (fun z => by rw [z, hds4] at ha4; cases ha4)]
            exact ha4
          · rw [upd_same, take_more hn, List.append_assoc]
      · rintro σ H4 ⟨v5', rfl, s4, ha4, hds4, vs, hlv4, hvs4⟩
        rw [List.length_map, List.take_length] at hds4
        refine ⟨_, rfl, .inl ⟨rfl, _, SqL.of hlv4⟩, _, rfl, lv, _, _, rfl, rfl, hlv4, ?_, ?_⟩
        · have := Paired.length hvs4
          exact Nat.lt_of_le_of_lt (by omega : _ ≤ 1000) (by decide)
        have nlv : ∀ b o, H b = some o → b ≠ lv := fun b o e => ne_of_none (same_new hds _ _ e) hlv
        have s5 : Same H (upd H4 lv (.lst (vs ++ [.ref a]))) := fun b o e => by rw [upd_ne (nlv b o e)]; exact s4 b o e
        have ha5 : upd H4 lv (.lst (vs ++ [.ref a])) a = some (.lst ((F.map (num m)).map V.int)) := by rw [upd_ne na]; exact ha4
        have hds5 : upd H4 lv (.lst (vs ++ [.ref a])) ds = some (.dK (seenE (done.flatten ++ F.map (num m)))) := by rw [upd_ne n1]; exact hds4
        have hlv5 : LevAt (upd H4 lv (.lst (vs ++ [.ref a]))) lv (done ++ [F.map (num m)]) := by
          refine ⟨_, upd_same, paired_snoc ⟨a, rfl, na, ha5⟩ (paired_imp (fun _ _ ⟨b, e, n, h⟩ => ⟨b, e, n, by rw [upd_ne n]; exact h⟩) hvs4)⟩
        generalize upd H4 lv (.lst (vs ++ [.ref a])) = H5 at s5 ha5 hds5 hlv5
        have hd5 := s5 _ _ hd
        have hde5 := paired_imp (fun _ _ (r : EnAt H _ _) => (⟨r.1, r.2.keep (Keep.of s5)⟩ : EnAt H5 _ _)) hde
        refine ⟨_, rfl, a, rfl, ⟨_, SqL.of ha5⟩, fun N hN => ?_⟩
        cases m with
        | zero =>
          refine lc_it (walk_list (xs := (F.map (num 0)).map V.int)) (fun i H' => Same H5 H' ∧ H' N = some (.lst [])) ⟨same_new hN, upd_same⟩ (fun i H' _ z => SqL.of (z.1 _ _ ha5)) ?_ ?_
          · rintro i x H6 H7 hi ⟨s6, hN6⟩ ⟨rfl, hx⟩
            obtain ⟨n, hn, rfl⟩ := map_at hx
            obtain ⟨u, hu, rfl⟩ := map_at hn
            obtain ⟨nx, hg⟩ := hFL u (List.mem_of_getElem? hu)
            have hde6 := paired_imp (fun _ _ (r : EnAt H5 _ _) => (⟨r.1, r.2.keep (Keep.of s6)⟩ : EnAt _ _ _)) hde5
            obtain ⟨hv, t1, q, e, ht1, _⟩ := pgv_ok (s6 _ _ hd5) hde6 hg
            refine ⟨rfl, ?_⟩
            refine ⟨_, rfl, _, rfl, d, _, rfl, hv, t1, _, _, _, e, rfl, SqT.of ht1, rfl, rfl, _, rfl, iteF ⟨s6, hN6⟩⟩
          · rintro H6 ⟨s6, hN6⟩
            refine ⟨_, rfl, false, .inl ⟨[], SqL.of hN6, rfl⟩, iteF (iteF ?_)⟩
            refine ⟨_, rfl, N, rfl, ⟨_, SqL.of hN6⟩, fun N2 hN2 => ?_⟩
            refine RU.out_it (walk_list (xs := [])) (fun i H' => Same H6 H' ∧ H' N2 = some (.lst [])) ⟨same_new hN2, upd_same⟩ (fun i H' _ z => SqL.of (z.1 _ _ hN6)) (fun i x _ _ hi => absurd hi (Nat.not_lt_zero i)) ?_
            rintro H7 ⟨s7, hN7⟩
            have s57 := s6.trans s7
            refine ⟨N2, [], _, _, _, _, done ++ [F.map (num 0)], rfl, s5.trans s57, ?_, hN7, ?_, hlv5.same s57, .inl ⟨rfl, rfl, ?_⟩⟩
            · obtain ⟨vs5, h5, _⟩ := hlv5
              exact (ne_of_none (s6 _ _ h5) hN2).symm
            · rw [List.flatten_append, List.flatten_cons, List.flatten_nil, List.append_nil]
              exact s57 _ _ hds5
            · rw [← hdone]
              rfl
        | succ m =>
          have hF0 : 0 < F.length := List.length_pos_iff.mpr hF
          obtain ⟨r2, hrw2⟩ := rows_cons (kidsF F)
          have hkl : (kidsF F).length ≤ 1000 := by
            have z := hRlen.length_eq
            have e2 : rows (m + 1) F = F.map (num (m + 1)) :: rows m (kidsF F) := rfl
            rw [← hdone, e2, hrw2, List.flatten_append, List.flatten_cons, List.flatten_cons] at z
            simp only [List.length_append, List.length_map] at z
            omega
          have hFl : F.length ≤ 1000 := by
            rw [List.length_append, List.length_map] at hlenR
            omega
          refine lc_it (walk_list (xs := (F.map (num (m + 1))).map V.int)) (fun i H' => Same H5 H' ∧ H' N = some (.lst ((F.take i).map fun u => pgv es (num (m + 1) u)))) ⟨same_new hN, upd_same⟩ (fun i H' _ z => SqL.of (z.1 _ _ ha5)) ?_ ?_
          · rintro i x H6 H7 hi ⟨s6, hN6⟩ ⟨rfl, hx⟩
            obtain ⟨n, hn, rfl⟩ := map_at hx
            obtain ⟨u, hu, rfl⟩ := map_at hn
            obtain ⟨hg, _⟩ := hFL u (List.mem_of_getElem? hu)
            have hde6 := paired_imp (fun _ _ (r : EnAt H5 _ _) => (⟨r.1, r.2.keep (Keep.of s6)⟩ : EnAt _ _ _)) hde5
            obtain ⟨hv, t1, q1, q2, e, ht1, _, _⟩ := pgv_ok (s6 _ _ hd5) hde6 hg
            refine ⟨rfl, ?_⟩
            refine ⟨_, rfl, _, rfl, d, _, rfl, hv, t1, _, _, _, e, rfl, SqT.of ht1, rfl, rfl, _, rfl, iteT ?_⟩
            refine ⟨_, rfl, _, rfl, d, _, rfl, hv, _, hN6, ?_, same_upd s6 hN, ?_⟩
            · rw [List.length_map, List.length_take]
              exact Nat.lt_of_le_of_lt (by omega : _ ≤ 1000) (by decide)
            · rw [upd_same, take_more hu, List.map_append]
              rfl
          · rintro H6 ⟨s6, hN6⟩
            rw [List.length_map, List.length_map, List.take_length] at hN6
            have e3 : true = !(F.map fun u => pgv es (num (m + 1) u)).isEmpty := by
              cases F with
              | nil => exact (hF rfl).elim
              | cons u F => rfl
            have e4 : decide (((F.map fun u => pgv es (num (m + 1) u)).length : Int) < (((F.map (num (m + 1))).map V.int).length : Int)) = false := decide_eq_false (by simp only [List.length_map]; omega)
            refine ⟨_, rfl, true, .inl ⟨_, SqL.of hN6, e3⟩, iteT ?_⟩
            refine ⟨_, rfl, N, _, rfl, .inl (SqL.of hN6), _, rfl, a, _, rfl, .inl (SqL.of (s6 _ _ ha5)), _, _, rfl, rfl, _, rfl, ?_⟩
            refine (congrArg (fun b => (if b = true then _ else _)) e4).mpr (iteF ?_)
            refine ⟨_, rfl, N, rfl, ⟨_, SqL.of hN6⟩, fun N2 hN2 => ?_⟩
            have part : ∀ i u, F[i]? = some u → (kidsF (F.take i)).length + u.kids.length ≤ 1000 := fun i u hu => by
              have z := sum_part1 (fun u : Tr (m + 1) => u.kids.length) hu
              have z2 : (kidsF F).length = (F.map fun u => u.kids.length).sum := List.length_flatMap
              have z3 : (kidsF (F.take i)).length = ((F.take i).map fun u => u.kids.length).sum := List.length_flatMap
              rw [z3]
              rw [z2] at hkl
              omega
            refine RU.out_it (walk_list (xs := F.map fun u => pgv es (num (m + 1) u))) (fun i H' => Same H6 H' ∧ H' N2 = some (.lst (((kidsF (F.take i)).map (num m)).map V.int))) ⟨same_new hN2, upd_same⟩ (fun i H' _ z => SqL.of (z.1 _ _ hN6)) ?_ ?_
            · rintro i x H7 H8 hi ⟨s7, hN7⟩ ⟨rfl, hx⟩
              obtain ⟨u, hu, rfl⟩ := map_at hx
              obtain ⟨hg, _⟩ := hFL u (List.mem_of_getElem? hu)
              have s57 := s6.trans s7
              have hde7 := paired_imp (fun _ _ (r : EnAt H5 _ _) => (⟨r.1, r.2.keep (Keep.of s57)⟩ : EnAt _ _ _)) hde5
              obtain ⟨hv, t1, q1, q2, e, ht1, _, hq2⟩ := pgv_ok (s57 _ _ hd5) hde7 hg
              have hp := part i u hu
              refine ⟨rfl, ?_⟩
              dsimp only [tYes]
              rw [if_pos rfl]
              refine ⟨_, rfl, t1, _, _, _, e, rfl, SqT.of ht1, rfl, q2, rfl, ⟨_, hq2.sq⟩, ?_⟩
              refine RU.out_it (walk_tup (xs := (u.kids.map (num m)).map V.int)) (fun j H' => Same H6 H' ∧ FzT H' q2 ((u.kids.map (num m)).map V.int) ∧ H' N2 = some (.lst (((kidsF (F.take i) ++ u.kids.take j).map (num m)).map V.int))) ⟨s7, hq2, by rw [List.take_zero, List.append_nil]; exact hN7⟩ (fun j H' _ z => z.2.1.sq) ?_ ?_
              · rintro j x H9 Ha hj ⟨s9, hq9, hN9⟩ ⟨rfl, hx⟩
                obtain ⟨n, hn, rfl⟩ := map_at hx
                obtain ⟨k, hk, rfl⟩ := map_at hn
                refine ⟨rfl, ?_⟩
                dsimp only [tYes]
                rw [if_pos rfl]
                refine ⟨_, rfl, _, hN9, ?_, same_upd s9 hN2, ?_, ?_⟩
                · rw [List.length_map, List.length_map, List.length_append, List.length_take]
                  exact Nat.lt_of_le_of_lt (by omega : _ ≤ 1000) (by decide)
                · exact hq9.keep ((Keep.refl _).upd fun u e => by rw [hN9] at e; cases e; rfl)
                · rw [upd_same, take_more hk]
                  simp
              · rintro H9 ⟨s9, hq9, hN9⟩
                rw [List.length_map, List.length_map, List.take_length] at hN9
                refine ⟨s9, ?_⟩
                have e5 : kidsF (F.take (i + 1)) = kidsF (F.take i) ++ u.kids := by
                  unfold kidsF
                  rw [take_more hu, List.flatMap_append]
                  simp
                rw [e5]
                exact hN9
            · rintro H7 ⟨s7, hN7⟩
              rw [List.length_map, List.take_length] at hN7
              have s57 := s6.trans s7
              refine ⟨N2, (kidsF F).map (num m), _, _, _, _, done ++ [F.map (num (m + 1))], rfl, s5.trans s57, ?_, hN7, ?_, hlv5.same s57, .inr ⟨m, kidsF F, rfl, rfl, ?_, ?_, ?_, ?_⟩⟩
              · obtain ⟨vs5, h5, _⟩ := hlv5
                exact (ne_of_none (s6 _ _ h5) hN2).symm
              · rw [List.flatten_append, List.flatten_cons, List.flatten_nil, List.append_nil]
                exact s57 _ _ hds5
              · intro z
                cases F with
                | nil => exact hF rfl
                | cons u F =>
                  have h1 := (hFK u (List.mem_cons_self ..)).2.2.1
                  have h2 : u.kids ++ kidsF F = [] := z
                  rw [(List.append_eq_nil_iff.mp h2).1] at h1
                  cases h1
              · intro k hk
                obtain ⟨u, hu, hk⟩ := List.mem_flatMap.mp hk
                exact (hFL u hu).2 k hk
              · intro k hk
                obtain ⟨u, hu, hk⟩ := List.mem_flatMap.mp hk
                exact (hFK u hu).2.2.2 k hk
              · rw [List.append_assoc, ← hdone]
                rfl
end
end K29

namespace K29
open PySem PySem.Spec PyProof.Rows L2 RZ HX TR
theorem fit_root {S : List (Int × Pg)} {room : Nat} {top : Bool} : ∀ {l : Nat} {t : Tr l}, Laid S l t → WfSh room l top (shp l t) → ∃ g, lkp S (num l t) = some g ∧ loS room l top ≤ Pg.parts g ∧ Pg.parts g ≤ room ∧ (Pg.isLeaf g = decide (l = 0))
  | 0, t, ⟨nx, h⟩, w => ⟨_, h, w.1, w.2, rfl⟩
  | l + 1, t, ⟨h, _⟩, w => by
    have e : (shp (l + 1) t).ks.length = t.kids.length := List.length_map ..
    have w1 := w.1
    have w2 := w.2.1
    rw [e] at w1 w2
    refine ⟨_, h, ?_, ?_, rfl⟩
    · show _ ≤ (t.kids.map (num l)).length
      rw [List.length_map]
      exact w1
    · show (t.kids.map (num l)).length ≤ _
      rw [List.length_map]
      exact w2
theorem fit_all {S : List (Int × Pg)} {room : Nat} : ∀ {l : Nat} {top : Bool} {t : Tr l}, Laid S l t → WfSh room l top (shp l t) → ∀ k ∈ nums l t, k = num l t ∨ ∃ g, lkp S k = some g ∧ (room + 1) / 2 ≤ Pg.parts g ∧ Pg.parts g ≤ room
  | 0, _, t, _, _, k, hk => .inl (List.mem_singleton.mp hk)
  | l + 1, _, t, ⟨_, hl⟩, w, k, hk => by
    rcases List.mem_cons.mp hk with hk | hk
    · exact .inl hk
    · obtain ⟨u, hu, hk⟩ := List.mem_flatMap.mp hk
      have wu : WfSh room l false (shp l u) := w.2.2 _ (List.mem_map_of_mem hu)
      refine .inr ?_
      rcases fit_all (hl u hu) wu k hk with e | h
      · obtain ⟨g, h1, h2, h3, _⟩ := fit_root (hl u hu) wu
        exact ⟨g, by rw [e]; exact h1, h2, h3⟩
      · exact h
section
variable {P : Program} {w : World} {K : PySem.W.Frag} {mg : Str → Option Value} {base : Heap}
def sp_sizes_fit : Sp := fun vs H Q _ => ∃ (room l : Nat) (t : Tr l) (S : List (Int × Pg)) (d : Addr), vs = [.int (room : Int), .int (num l t), .ref d] ∧ DctAt H d S ∧ Laid S l t ∧ WfSh room l true (shp l t) ∧ (nums l t).Nodup ∧ (S.map (·.1)).Perm (nums l t) ∧
  ∀ H', Same H H' → Q (.bl true) H'
theorem ok_sizes_fit (T : TX K mg) : FnOk P w K mg base CX0 2 (He.ga K "sizes_fit") T.fd_sizes_fit ["room", "root", "pages"] sp_sizes_fit := by
  have G_half_of : FnOk P w K mg base CX0 1 (He.ga K "half_of") T.fd_half_of ["room"] sp_half_of := ok_half_of T
  have b_half_of := b_half_of T
  have G_parts_of : FnOk P w K mg base CX0 1 (He.ga K "parts_of") T.fd_parts_of ["page"] (sp_parts_of K) := ok_parts_of T
  have b_parts_of := b_parts_of T
  refine T.F_sizes_fit.ok sc_sizes_fit (fun vs H Q E h => ?_) (fun cdv A outer st H vs Q E hr h => ?_)
  · obtain ⟨room, l, t, S, d, rfl, _⟩ := h
    rfl
  · obtain ⟨room, l, t, S, d, rfl, ⟨es, hd, hde⟩, hL, hW, nd, perm, kq⟩ := h
    refine ⟨_, PSs.nox (pss_cons (ps_lock (ps_for PassesOwn.never rfl (pi_items (pv 2)) (pg_tup rfl (pgs_cons (pg_name (i := 3) sc_sizes_fit.nd rfl (Or.inl rfl)) (pgs_cons (pg_name (i := 4) sc_sizes_fit.nd rfl (Or.inl rfl)) pgs_nil)))
 (pss_cons (ps_set (i := 5) sc_sizes_fit.nd rfl (Or.inl rfl) (pe_call G_half_of (hr.mono (by first | decide | omega)) rfl T.g_half_of T.F_half_of.kp b_half_of .nil pass0 (pa_cons (pv 0) pa_nil)))
 (Evl.pss_cut (ps_if (pt_cmpR op_eq (pv 3) (pv 1) (nomark _))
 (pss_one (ps_set (i := 5) sc_sizes_fit.nd rfl (Or.inl rfl) (pe_ifExp (pt_cmpR op_eq (pe_ix ix_tup (pv 4) pe_int (fun _ _ => rfl)) pe_str (nomark _)) pe_int pe_int)))
 pss_nil)
 (pss_one (ps_if (pt_not (pt_chain op_le op_le (pv 5) (pe_callB call_len_seq rfl T.n_len PySem.boot_len (pa_cons (pe_call G_parts_of (hr.mono (by first | decide | omega)) rfl T.g_parts_of T.F_parts_of.kp b_parts_of .nil pass0 (pa_cons (pv 4) pa_nil)) pa_nil)) (pv 0)))
 (pss_one (ps_ret pe_bl))
 pss_nil))))))
 (pss_one (ps_ret pe_bl))), ?_⟩
    refine ⟨d, .dK es, hd, ?_, fun od => ?_⟩
    · exact True.intro
    have hdf : upd H d (.frz od (.dK es)) d = some (.frz od (.dK es)) := upd_same
    have sf : ∀ b o, b ≠ d → H b = some o → upd H d (.frz od (.dK es)) b = some o := fun b o n e => by rw [upd_ne n]; exact e
    generalize upd H d (.frz od (.dK es)) = H1 at hdf sf
    refine ⟨_, rfl, d, od, es, rfl, hdf, ?_⟩
    refine for_it (walk_items (kvs := es)) (fun i σ H' => ∃ v3 v4 v5, σ = [some (.int (room : Int)), some (.int (num l t)), some (.ref d), v3, v4, v5] ∧ Same H1 H') ⟨_, _, _, rfl, Same.refl H1⟩ (fun i σ H' _ z => ?_) ?_ ?_
    · obtain ⟨_, _, _, _, z⟩ := z
      exact z _ _ hdf
    · rintro i x σ H2 H3 hi ⟨v3, v4, v5, rfl, s2⟩ ⟨tz, x1, x2, rfl, htz, rfl, e1, e2⟩
      obtain ⟨e, he⟩ : ∃ e, es[i]? = some e := ⟨_, List.getElem?_eq_getElem hi⟩
      obtain ⟨q, hq, r1, r2⟩ := pget1 hde he
      have hq2 := List.mem_of_getElem? hq
      have ndS : (S.map (·.1)).Nodup := perm.nodup_iff.mpr nd
      have hk : lkp S q.1 = some q.2 := mem_lkp ndS hq2
      have hn : q.1 ∈ nums l t := perm.mem_iff.mp (List.mem_map_of_mem hq2)
      dsimp only at e1 e2
      rw [he] at e1 e2
      obtain rfl := Option.some.inj e1
      obtain rfl := Option.some.inj e2
      obtain ⟨ek, ev⟩ := e
      dsimp only at r1 r2
      subst r1
      have k13 : Keep H (upd H2 tz (.tup [kV (.inl q.1), ev])) := ⟨fun b u tu e => same_new htz _ _ (s2 _ _ (sf b _ (fun z => by rw [z, hd] at e; cases e; cases tu) e))⟩
      have r3 := r2.keep k13
      have s3 : Same H1 (upd H2 tz (.tup [kV (.inl q.1), ev])) := s2.trans (same_new htz)
      have ht3 : upd H2 tz (.tup [kV (.inl q.1), ev]) tz = some (.tup [kV (.inl q.1), ev]) := upd_same
      generalize upd H2 tz (.tup [kV (.inl q.1), ev]) = H3 at r3 s3 ht3
      refine ⟨tz, _, rfl, SqT.of ht3, rfl, _, _, rfl, _, _, rfl, rfl, ?_⟩
      refine ⟨_, rfl, room, rfl, ?_⟩
      refine ⟨fun σ' H' => ∃ least : Nat, σ' = [some (.int (room : Int)), some (.int (num l t)), some (.ref d), some (.int q.1), some ev, some (.int (least : Int))] ∧ H' = H3 ∧ least ≤ Pg.parts q.2 ∧ Pg.parts q.2 ≤ room, ?_, ?_⟩
      · refine ⟨_, rfl, _, rfl, rfl, _, rfl, ?_⟩
        obtain ⟨k, g⟩ := q
        by_cases c : k = num l t
        · have e3 : decide (V.int k = V.int (num l t)) = true := decide_eq_true (by rw [c])
          refine (congrArg (fun b => (if b = true then _ else _)) e3).mpr (iteT ?_)
          obtain ⟨g', h1, h2, h3, h4⟩ := fit_root hL hW
          rw [← c, hk] at h1
          cases h1
          cases g with
          | leaf ps nx =>
            obtain ⟨t1, q1, rfl, ht1, _⟩ := r3
            refine ⟨_, rfl, t1, _, _, _, rfl, rfl, SqT.of ht1, rfl, rfl, _, rfl, iteT ?_⟩
            exact ⟨0, rfl, rfl, Nat.zero_le _, h3⟩
          | node ks kids =>
            obtain ⟨t1, q1, q2, rfl, ht1, _⟩ := r3
            refine ⟨_, rfl, t1, _, _, _, rfl, rfl, SqT.of ht1, rfl, rfl, _, rfl, iteF ?_⟩
            have l0 : ¬ l = 0 := of_decide_eq_false h4.symm
            refine ⟨2, rfl, rfl, ?_, h3⟩
            unfold loS at h2
            rw [if_pos rfl, if_neg l0] at h2
            exact h2
        · have e3 : decide (V.int k = V.int (num l t)) = false := decide_eq_false fun z => c (by injection z)
          refine (congrArg (fun b => (if b = true then _ else _)) e3).mpr (iteF ?_)
          rcases fit_all hL hW k hn with z | ⟨g', h1, h2, h3⟩
          · exact (c z).elim
          · rw [hk] at h1
            cases h1
            exact ⟨_, rfl, rfl, h2, h3⟩
      · rintro σ' H' ⟨least, rfl, rfl, h1, h2⟩
        refine ⟨_, rfl, _, rfl, ev, q.2, rfl, r3, fun a xs ha hx => ⟨a, _, rfl, .inr ha, _, _, rfl, rfl, true, congrArg V.bl (decide_eq_true (by omega)), iteT ?_⟩⟩
        refine ⟨_, rfl, _, _, rfl, rfl, true, congrArg V.bl (decide_eq_true (by omega)), iteF ?_⟩
        exact ⟨_, _, _, rfl, s3⟩
    · rintro σ H2 ⟨v3, v4, v5, rfl, s2⟩
      refine ⟨s2 _ _ hdf, kq _ fun b o e => ?_⟩
      by_cases c : b = d
      · subst c
        rw [hd] at e
        rw [upd_same]
        exact e
      · rw [upd_ne c]
        exact s2 _ _ (sf _ _ c e)
end
end K29

namespace K29
open PySem PySem.Spec PyProof.Rows L2 RZ HX TR
section
variable {P : Program} {w : World} {K : PySem.W.Frag} {mg : Str → Option Value} {base : Heap}
def sp_nexts_fit : Sp := fun vs H Q _ => ∃ (L : List Int) (S : List (Int × Pg)) (a d : Addr), vs = [.ref a, .ref d] ∧ H a = some (.lst (L.map V.int)) ∧ DctAt H d S ∧ NextOk S L L.length ∧ L ≠ [] ∧ L.length ≤ 1000 ∧ ∀ H', Same H H' → Q (.bl true) H'
theorem ok_nexts_fit (T : TX K mg) : FnOk P w K mg base CX0 1 (He.ga K "nexts_fit") T.fd_nexts_fit ["leaves", "pages"] sp_nexts_fit := by
  refine T.F_nexts_fit.ok sc_nexts_fit (fun vs H Q E h => ?_) (fun cdv A outer st H vs Q E hr h => ?_)
  · obtain ⟨L, S, a, d, rfl, _⟩ := h
    rfl
  · obtain ⟨L, S, a, d, rfl, ha, hd, hN, hne, few, kq⟩ := h
    refine ⟨_, PSs.nox (pss_cons (ps_setLc (i := 2) (own := [("number", 3)]) (g := gName 3) (tt := tYes) rfl sc_nexts_fit.nd rfl rfl (sw_true rfl rfl rfl (by decide +kernel)) (pi_list (pv 0)) (blkOk_by (own := [("number", 3)]) (N := ["leaves", "pages", "nexts", "number"]) (sc := defScope s_nexts_fit) (by decide +kernel)) (fun _ _ _ _ _ => (pg_name (i := 3) sc_nexts_fit.nd rfl (Or.inl rfl))) (fun _ _ _ _ _ => pts_nil) (fun _ _ _ _ _ => (pe_ix (ixt K) (pe_dget (hu_of hr) (pv 1) (pv 3) (fun _ _ => rfl)) pe_int (fun _ _ => rfl))))
 (pss_one (ps_ret (pe_cmpR (op_eqD hr.units) (pv 2) (pe_lst (StX.pa_star (pe_slice sl_list (pv 0) (po_some pe_int) po_none) (pa_cons pe_int pa_nil))) (nomark _))))), ?_⟩
    refine ⟨_, rfl, a, rfl, ⟨_, SqL.of ha⟩, fun D hD => ?_⟩
    refine lc_it (walk_list (xs := L.map V.int)) (fun i H' => Same H H' ∧ H' D = some (.lst (((L.drop 1 ++ [0]).take i).map V.int))) ⟨same_new hD, upd_same⟩ (fun i H' _ z => SqL.of (z.1 _ _ ha)) ?_ ?_
    · rintro i x H3 H4 hi ⟨s3, hD3⟩ ⟨rfl, hx⟩
      obtain ⟨n, hn, rfl⟩ := map_at hx
      rw [List.length_map] at hi
      obtain ⟨ps, hk⟩ := hN i n hi hn
      obtain ⟨v, hv, t1, q, rfl, ht1, _⟩ := (hd.same s3).get hk
      refine ⟨rfl, ?_⟩
      dsimp only [tYes]
      rw [if_pos rfl]
      refine ⟨_, rfl, _, rfl, d, _, rfl, hv, t1, _, _, _, rfl, rfl, SqT.of ht1, rfl, _, hD3, ?_, same_upd s3 hD, ?_⟩
      · rw [List.length_map, List.length_take]
        exact Nat.lt_of_le_of_lt (by omega : _ ≤ 1000) (by decide)
      · rw [upd_same, take_more (foll hi), List.map_append]
        rfl
    · rintro H3 ⟨s3, hD3⟩
      have e0 : (L.map V.int).length = (L.drop 1 ++ [0]).length := by
        have : 0 < L.length := List.length_pos_iff.mpr hne
        rw [List.length_map, List.length_append, List.length_drop]
        show _ = _ - 1 + 1
        omega
      rw [e0, List.take_length] at hD3
      have ecut : cutV (L.map V.int) (some 1) none = (L.drop 1).map V.int := by
        rw [List.map_drop]
        exact cut_from' (n := 1)
      refine ⟨_, rfl, _, rfl, 1, rfl, a, _, rfl, SqL.of (s3 _ _ ha), fun b hb => ?_⟩
      rw [ecut]
      have s4 := s3.trans (same_new (o := .lst ((L.drop 1).map V.int)) hb)
      have hD4 := same_new (o := .lst ((L.drop 1).map V.int)) hb _ _ hD3
      refine ⟨b, _, rfl, .inr (SqL.of upd_same), ?_, fun c hc => ?_⟩
      · rw [List.length_append, List.length_map, List.length_drop]
        exact Nat.le_trans (by show _ + 1 ≤ 1001; omega) (by decide)
      have e1 : ((L.drop 1).map V.int ++ [V.int 0]) = (L.drop 1 ++ [0]).map V.int := by rw [List.map_append]; rfl
      rw [e1]
      generalize upd H3 b (.lst ((L.drop 1).map V.int)) = H4 at s4 hD4 hc
      refine ⟨.list ((L.drop 1 ++ [0]).map PyData.int), .list ((L.drop 1 ++ [0]).map PyData.int), .lst (SqL.of (same_new hc _ _ hD4)) (dpa_ints _), .lst (SqL.of upd_same) (dpa_ints _), shaped_ints _, shaped_ints _, ?_⟩
      rw [eqv_ints, decide_eq_true rfl]
      exact kq _ (s4.trans (same_new hc))
end
end K29

namespace K29
open PySem PySem.Spec PyProof.Rows L2 RZ HX TR
section
variable {P : Program} {w : World} {K : PySem.W.Frag} {mg : Str → Option Value} {base : Heap}
def sp_need_key : Sp := fun vs H Q _ => ∃ k : Int, vs = [.int k] ∧ 0 ≤ k ∧ k ≤ 1000000000 ∧ Q .non H
theorem ok_need_key (T : TX K mg) : FnOk P w K mg base CX0 4 (He.ga K "need_key") T.fd_need_key ["thing"] sp_need_key := by
  have G_is_key : FnOk P w K mg base CX0 3 (He.ga K "is_key") T.fd_is_key ["thing"] (sp_rng 0 1000000000) := ok_is_key T
  have b_is_key := b_is_key T
  refine T.F_need_key.ok sc_need_key (fun vs H Q E h => ?_) (fun cdv A outer st H vs Q E hr h => ?_)
  · obtain ⟨k, rfl, _⟩ := h
    rfl
  · obtain ⟨k, rfl, h0, h1, kq⟩ := h
    refine ⟨_, PSs.nox (pss_one (ps_if (pt_not (pt_val (pe_call G_is_key (hr.mono (by first | decide | omega)) rfl T.g_is_key T.F_is_key.kp b_is_key .nil pass0 (pa_cons (pv 0) pa_nil))))
 (pss_one ps_never)
 pss_nil)), ?_⟩
    refine ⟨_, rfl, k, rfl, ?_⟩
    rw [decide_eq_true h0, decide_eq_true h1]
    exact ⟨true, rfl, iteF kq⟩
end
end K29

namespace K29
open PySem PySem.Spec PyProof.Rows L2 RZ HX TR
theorem KBs.at {α : Type} {R : α → Int → Int → Prop} {hi : Int} : ∀ {kids : List α} {ks : List Int} {lo : Int}, KBs R lo ks kids hi → ∀ {i : Nat} {k : α}, kids[i]? = some k → ∃ a b, (lo :: ks)[i]? = some a ∧ (ks ++ [hi])[i]? = some b ∧ R k a b
  | [], ks, _, h, _, _, _ => by cases ks <;> exact h.elim
  | [x], [], lo, h, i, k, e => by
    cases i with
    | zero => cases e; exact ⟨lo, hi, rfl, rfl, h⟩
    | succ i => simp at e
  | _ :: _ :: _, [], _, h, _, _, _ => h.elim
  | x :: kids, c :: ks, lo, h, i, k, e => by
    cases i with
    | zero => cases e; exact ⟨lo, c, rfl, rfl, h.1⟩
    | succ i => exact KBs.at h.2 (i := i) e
def Has (H : Hp) (b : Addr) (k lo hi : Int) : Prop := ∃ es t', H b = some (.dK es) ∧ valV es (.inl k) = some (.ref t') ∧ H t' = some (.tup [.int lo, .int hi])
theorem Has.same {H H' : Hp} {b : Addr} {k lo hi : Int} (s : Same H H') (h : Has H b k lo hi) : Has H' b k lo hi := by
  obtain ⟨es, t', h1, h2, h3⟩ := h
  exact ⟨es, t', s _ _ h1, h2, s _ _ h3⟩
theorem Has.put {H : Hp} {b : Addr} {k k' lo hi : Int} {es : List (Key × V)} {v : V} (h : Has H b k lo hi) (e : H b = some (.dK es)) (n : k ≠ k') : Has (upd H b (.dK (putK es (.inl k') v))) b k lo hi := by
  obtain ⟨es', t', h1, h2, h3⟩ := h
  rw [e] at h1
  cases h1
  refine ⟨_, t', upd_same, ?_, ?_⟩
  · rw [valV_put, if_neg (fun z => n (by injection z))]
    exact h2
  · rw [upd_ne (fun z => by rw [z, e] at h3; cases h3)]
    exact h3
theorem Has.new {H : Hp} {b t' : Addr} {k lo hi : Int} {es : List (Key × V)} (e : H b = some (.dK es)) (ht : H t' = some (.tup [.int lo, .int hi])) : Has (upd H b (.dK (putK es (.inl k) (.ref t')))) b k lo hi := by
  refine ⟨_, t', upd_same, ?_, ?_⟩
  · rw [valV_put, if_pos rfl]
  · rw [upd_ne (fun z => by rw [z, e] at ht; cases ht)]
    exact ht
def BK (H : Hp) (b : Addr) (m : Nat) (u : Tr m) : Prop := ∃ lo hi, Has H b (num m u) lo hi ∧ KeyB m u lo hi
theorem BK.same {H H' : Hp} {b : Addr} {m : Nat} {u : Tr m} (s : Same H H') (h : BK H b m u) : BK H' b m u := by
  obtain ⟨lo, hi, h1, h2⟩ := h
  exact ⟨lo, hi, h1.same s, h2⟩
theorem BK.put {H : Hp} {b : Addr} {m : Nat} {u : Tr m} {k' : Int} {es : List (Key × V)} {v : V} (h : BK H b m u) (e : H b = some (.dK es)) (n : num m u ≠ k') : BK (upd H b (.dK (putK es (.inl k') v))) b m u := by
  obtain ⟨lo, hi, h1, h2⟩ := h
  exact ⟨lo, hi, h1.put e n, h2⟩
theorem cut_last {xs : List V} {n : Nat} (h : xs.length = n + 1) : cutV xs none (some (-1)) = xs.take n := by
  have e1 : HT.sIx xs.length 0 none = 0 := rfl
  have e2 : HT.sIx xs.length xs.length (some (-1)) = n := by
    show (if (-1 : Int) < 0 then ((-1 : Int) + (xs.length : Int)).toNat else min (-1 : Int).toNat xs.length) = n
    rw [if_pos (by decide)]
    omega
  unfold cutV
  rw [e1, e2]
  rfl
section
variable {P : Program} {w : World} {K : PySem.W.Frag} {mg : Str → Option Value} {base : Heap}
/-- what the last row's pages may hold -/
def BndAt (H : Hp) (b : Addr) (F : List (Tr 0)) : Prop := ∀ u ∈ F, BK H b 0 u
def sp_bounds_of : Sp := fun vs H Q _ => ∃ (l : Nat) (t : Tr l) (S : List (Int × Pg)) (lv d : Addr), vs = [.ref lv, .ref d] ∧ LevAt H lv (rows l [t]) ∧ DctAt H d S ∧ Laid S l t ∧ KeyOk l t ∧ KeyB l t 0 1000000001 ∧ (nums l t).Nodup ∧ (nums l t).length ≤ 1000 ∧ l ≤ 100 ∧
  ∀ (H' : Hp) (b : Addr) (F : List (Tr 0)), Same H H' → (rows l [t]).getLast? = some (F.map (num 0)) → (∀ u ∈ F, Laid S 0 u) → BndAt H' b F → Q (.ref b) H'
theorem ok_bounds_of (T : TX K mg) : FnOk P w K mg base CX0 1 (He.ga K "bounds_of") T.fd_bounds_of ["levels", "pages"] sp_bounds_of := by
  refine T.F_bounds_of.ok sc_bounds_of (fun vs H Q E h => ?_) (fun cdv A outer st H vs Q E hr h => ?_)
  · obtain ⟨l, t, S, lv, d, rfl, _⟩ := h
    rfl
  · obtain ⟨l, t, S, lv, d, rfl, ⟨vs, hlv, hvs⟩, ⟨es, hd, hde⟩, hL, hK, hB, nd, few, hl, kq⟩ := h
    refine ⟨_, PSs.nox (pss_cons (ps_set (i := 2) sc_bounds_of.nd rfl (Or.inl rfl) (RU.pe_dict1 (pe_ix ix_list (pe_ix ix_list (pv 0) pe_int (fun _ _ => rfl)) pe_int (fun _ _ => rfl)) (pe_tup (pa_cons pe_int (pa_cons (pe_op op_add (pe_gint T.g_GREATEST) pe_int) pa_nil)))))
 (pss_cons (ps_for PassesOwn.never rfl (pi_list (pe_slice sl_list (pv 0) po_none (po_some (pe_un un_neg pe_int)))) (pg_name (i := 3) sc_bounds_of.nd rfl (Or.inl rfl))
 (pss_one (ps_for PassesOwn.never rfl (pi_list (pv 3)) (pg_name (i := 4) sc_bounds_of.nd rfl (Or.inl rfl))
 (pss_cons (ps_asg (pe_dget (hu_of hr) (pv 2) (pv 4) (fun _ _ => rfl)) (pg_tup rfl (pgs_cons (pg_name (i := 5) sc_bounds_of.nd rfl (Or.inl rfl)) (pgs_cons (pg_name (i := 6) sc_bounds_of.nd rfl (Or.inl rfl)) pgs_nil))))
 (pss_cons (ps_asg (pe_dget (hu_of hr) (pv 1) (pv 4) (fun _ _ => rfl)) (pg_tup rfl (pgs_cons (pg_name (i := 7) sc_bounds_of.nd rfl (Or.inl rfl)) (pgs_cons (pg_name (i := 8) sc_bounds_of.nd rfl (Or.inl rfl)) (pgs_cons (pg_name (i := 9) sc_bounds_of.nd rfl (Or.inl rfl)) pgs_nil)))))
 (pss_one (ps_for PassesOwn.never rfl (RU.pi_zip3 rfl T.n_zip (pa_cons (pv 9) (pa_cons (pe_tup (pa_cons (pv 5) (StX.pa_star (pv 8) pa_nil))) (pa_cons (pe_tup (StX.pa_star (pv 8) (pa_cons (pv 6) pa_nil))) pa_nil)))) (pg_tup rfl (pgs_cons (pg_name (i := 10) sc_bounds_of.nd rfl (Or.inl rfl)) (pgs_cons (pg_name (i := 11) sc_bounds_of.nd rfl (Or.inl rfl)) (pgs_cons (pg_name (i := 12) sc_bounds_of.nd rfl (Or.inl rfl)) pgs_nil))))
 (pss_one (ps_dput (hu_of hr) (pv 2) (pv 10) (pe_tup (pa_cons (pv 11) (pa_cons (pv 12) pa_nil))) rfl)))))))))
 (pss_one (ps_ret (pv 2))))), ?_⟩
    have hRlen : (rows l [t]).flatten.Perm (nums l t) := by
      have z := rows_perm [t]
      simpa using z
    have ndR : (rows l [t]).flatten.Nodup := hRlen.nodup_iff.mpr nd
    have lenR := hRlen.length_eq
    obtain ⟨r, hr1⟩ := rows_cons [t]
    have hvl : vs.length = l + 1 := by rw [Paired.length hvs, rows_len]
    obtain ⟨x0, hx0, a0, e0, _, ha0⟩ := pget2 hvs (i := 0) (y := [num l t]) (by rw [hr1]; rfl)
    subst e0
    refine fun b hb => ?_
    have sb : Same H (upd H b (.dK [])) := same_new hb
    have hb1 : upd H b (.dK []) b = some (.dK []) := upd_same
    generalize upd H b (.dK []) = H1 at sb hb1
    refine ⟨_, rfl, lv, _, _, _, rfl, rfl, SqL.of (sb _ _ hlv), at_of hx0 rfl, a0, _, _, _, rfl, rfl, SqL.of (sb _ _ ha0), rfl, _, _, rfl, rfl, by show 2 ≤ sizeLine; decide, fun t' ht' => ?_⟩
    refine ⟨same_new ht' _ _ hb1, [(.inl (num l t), .ref t')], rfl, (show 1 ≤ 15 by decide), ?_⟩
    have ht2 : upd H1 t' (.tup [.int 0, .int 1000000001]) t' = some (.tup [.int 0, .int 1000000001]) := upd_same
    have hb2 := same_new (o := .tup [.int 0, .int 1000000001]) ht' _ _ hb1
    have s2 := sb.trans (same_new (o := .tup [.int 0, .int 1000000001]) ht')
    show gName 2 (.ref b) _ (L2.upd (upd H1 t' (.tup [.int 0, .int 1000000001])) b (.dK (putK [] (.inl (num l t)) (.ref t')))) _
    generalize upd H1 t' (.tup [.int 0, .int 1000000001]) = H2 at ht2 hb2 s2
    have hroot : Has (upd H2 b (.dK (putK [] (.inl (num l t)) (.ref t')))) b (num l t) 0 1000000001 := Has.new hb2 ht2
    have s3 : Same H (upd H2 b (.dK (putK [] (.inl (num l t)) (.ref t')))) := fun c o e => by
      rw [upd_ne (ne_of_none e hb)]
      exact s2 c o e
    have hb3 : upd H2 b (.dK (putK [] (.inl (num l t)) (.ref t'))) b = some (.dK [(.inl (num l t), .ref t')]) := upd_same
    generalize upd H2 b (.dK (putK [] (.inl (num l t)) (.ref t'))) = H3 at hroot s3 hb3
    refine ⟨_, rfl, 1, rfl, _, rfl, lv, _, rfl, SqL.of (s3 _ _ hlv), fun q hq => ?_⟩
    rw [cut_last hvl]
    have s4 : Same H3 (upd H3 q (.lst (vs.take l))) := same_new hq
    have hq4 : upd H3 q (.lst (vs.take l)) q = some (.lst (vs.take l)) := upd_same
    have nqb : q ≠ b := (ne_of_none hb3 hq).symm
    generalize upd H3 q (.lst (vs.take l)) = H4 at s4 hq4
    refine ⟨q, rfl, ⟨_, SqL.of hq4⟩, ?_⟩
    have hbk0 : BK H4 b l t := ⟨0, 1000000001, hroot.same s4, hB⟩
    have s04 : Same H H4 := s3.trans s4
    have bnd : ∀ {m : Nat} {done : List (List Int)} {F : List (Tr (m + 1))}, done ++ rows (m + 1) F = rows l [t] → done.flatten.length + F.length + (kidsF F).length ≤ 1000 := fun {m done F} e => by
      have z := lenR
      obtain ⟨r2, hr2⟩ := rows_cons (kidsF F)
      have e2 : rows (m + 1) F = F.map (num (m + 1)) :: rows m (kidsF F) := rfl
      rw [← e, e2, hr2, List.flatten_append, List.flatten_cons, List.flatten_cons] at z
      simp only [List.length_append, List.length_map] at z
      omega
    have fr : ∀ {H'}, (∀ c o, c ≠ b → H4 c = some o → H' c = some o) → Same H H' := fun f c o e => f c o (ne_of_none e hb) (s04 c o e)
    refine for_list (xs := vs.take l) (fun j σ H' => ∃ v3 v4 v5 v6 v7 v8 v9 v10 v11 v12, σ = [some (.ref lv), some (.ref d), some (.ref b), v3, v4, v5, v6, v7, v8, v9, v10, v11, v12] ∧ (∀ c o, c ≠ b → H4 c = some o → H' c = some o) ∧
      ∃ (m : Nat) (F : List (Tr m)) (done : List (List Int)) (es' : List (Key × V)), done.length = j ∧ done ++ rows m F = rows l [t] ∧ H' b = some (.dK es') ∧ es'.length ≤ done.flatten.length + F.length ∧ ∀ u ∈ F, Laid S m u ∧ KeyOk m u ∧ BK H' b m u)
      ⟨_, _, _, _, _, _, _, _, _, _, rfl, fun _ _ _ e => e, l, [t], [], _, rfl, rfl, s4 _ _ hb3, Nat.le_refl _, fun u hu => by rw [List.mem_singleton.mp hu]; exact ⟨hL, hK, hbk0⟩⟩ (fun j σ H' _ z => ?_) ?_ ?_
    · obtain ⟨_, _, _, _, _, _, _, _, _, _, _, f, _⟩ := z
      exact SqL.of (f _ _ nqb hq4)
    · rintro j x σ H5 hx ⟨v3, v4, v5, v6, v7, v8, v9, v10, v11, v12, rfl, f5, m0, F, done, es5, hj, hdone, hb5, hes5, hF⟩
      have hjl : j < l := by
        have z := (List.getElem?_eq_some_iff.mp hx).1
        rw [List.length_take] at z
        omega
      rw [List.getElem?_take_of_lt hjl] at hx
      obtain ⟨m, rfl⟩ : ∃ m, m0 = m + 1 := ⟨m0 - 1, by
        have z := congrArg List.length hdone
        rw [List.length_append, rows_len, rows_len] at z
        omega⟩
      have hrow : (rows l [t])[j]? = some (F.map (num (m + 1))) := by
        rw [← hdone, List.getElem?_append_right (by omega), hj, Nat.sub_self]
        rfl
      obtain ⟨x', hx', aj, rfl, _, haj⟩ := pget2 hvs hrow
      rw [hx'] at hx
      obtain rfl := Option.some.inj hx
      have naj : aj ≠ b := ne_of_none haj hb
      have haj5 := fr f5 _ _ haj
      have hb1000 := bnd hdone
      have hnd : (F.map (num (m + 1)) ++ (kidsF F).map (num m)).Nodup := by
        have z := ndR
        obtain ⟨r2, hr2⟩ := rows_cons (kidsF F)
        have e2 : rows (m + 1) F = F.map (num (m + 1)) :: rows m (kidsF F) := rfl
        rw [← hdone, e2, hr2, List.flatten_append, List.flatten_cons, List.flatten_cons, ← List.append_assoc (F.map _)] at z
        exact (List.nodup_append.mp (List.nodup_append.mp z).2.1).1
      refine ⟨_, rfl, aj, rfl, ⟨_, SqL.of haj5⟩, ?_⟩
      refine for_list (xs := (F.map (num (m + 1))).map V.int) (fun i σ H' => ∃ v4 v5 v6 v7 v8 v9 v10 v11 v12, σ = [some (.ref lv), some (.ref d), some (.ref b), some (.ref aj), v4, v5, v6, v7, v8, v9, v10, v11, v12] ∧ (∀ c o, c ≠ b → H4 c = some o → H' c = some o) ∧
        ∃ es', H' b = some (.dK es') ∧ es'.length ≤ done.flatten.length + F.length + (kidsF (F.take i)).length ∧ (∀ u ∈ F.drop i, BK H' b (m + 1) u) ∧ ∀ k ∈ kidsF (F.take i), BK H' b m k)
        ⟨_, _, _, _, _, _, _, _, _, rfl, f5, es5, hb5, by omega, fun u hu => (hF u hu).2.2, fun k hk => nomatch hk⟩ (fun i σ H' _ z => ?_) ?_ ?_
      · obtain ⟨_, _, _, _, _, _, _, _, _, _, f, _⟩ := z
        exact SqL.of (fr f _ _ haj)
      · rintro i x σ H6 hx ⟨v4, v5, v6, v7, v8, v9, v10, v11, v12, rfl, f6, es6, hb6, hes6, hd6, hk6⟩
        obtain ⟨n, hn, rfl⟩ := map_at hx
        obtain ⟨u, hu, rfl⟩ := map_at hn
        have mu := List.mem_of_getElem? hu
        have hiF := (List.getElem?_eq_some_iff.mp hu).1
        have edrop : F.drop i = u :: F.drop (i + 1) := by
          rw [List.drop_eq_getElem_cons hiF, (List.getElem?_eq_some_iff.mp hu).2]
        obtain ⟨lo, hi, ⟨es6', t6, hb6', hv6, ht6⟩, hKB⟩ := hd6 u (by rw [edrop]; exact List.mem_cons_self ..)
        rw [hb6] at hb6'
        cases hb6'
        obtain ⟨⟨hg, hgk⟩, hKu, _⟩ := hF u mu
        have hde6 := paired_imp (fun _ _ (r : EnAt H _ _) => (⟨r.1, r.2.keep (Keep.of (fr f6))⟩ : EnAt H6 _ _)) hde
        obtain ⟨hv, t1, q1, q2, e1, ht1, hq1, hq2⟩ := pgv_ok (fr f6 _ _ hd) hde6 hg
        have hkl : u.keys.length + 1 = u.kids.length := hKB.len
        have part : (kidsF (F.take i)).length + u.kids.length ≤ (kidsF F).length := by
          have z := sum_part1 (fun u : Tr (m + 1) => u.kids.length) hu
          have z2 : (kidsF F).length = (F.map fun u => u.kids.length).sum := List.length_flatMap
          have z3 : (kidsF (F.take i)).length = ((F.take i).map fun u => u.kids.length).sum := List.length_flatMap
          rw [z3, z2]
          exact z
        have ekF : kidsF F = kidsF (F.take i) ++ (u.kids ++ kidsF (F.drop (i + 1))) := by
          have z : F = F.take i ++ (u :: F.drop (i + 1)) := by rw [← edrop, List.take_append_drop]
          conv => lhs; rw [z]
          unfold kidsF
          rw [List.flatMap_append, List.flatMap_cons]
        refine ⟨_, rfl, _, rfl, b, .ref t6, rfl, hv6 ▸ DGet.k (k := .inl (num (m + 1) u)) hb6, t6, _, rfl, SqT.of ht6, rfl, _, _, rfl, _, _, rfl, rfl, ?_⟩
        refine ⟨_, rfl, _, rfl, d, _, rfl, hv, t1, _, e1, SqT.of ht1, rfl, _, _, rfl, _, _, rfl, _, _, rfl, rfl, ?_⟩
        refine ⟨_, rfl, _, rfl, _, rfl, q1, _, rfl, .inl (SqT.of hq1), ?_, fun y1 hy1 => ?_⟩
        · rw [List.length_cons, List.length_append, List.length_map]
          exact Nat.le_trans (by show _ ≤ 1001; simp only [List.length_nil]; omega) (by decide)
        have hy1' : upd H6 y1 (.tup (V.int lo :: (u.keys.map V.int ++ []))) y1 = some (.tup ((lo :: u.keys).map V.int)) := by
          rw [upd_same]
          simp
        have s7 : Same H6 (upd H6 y1 (.tup (V.int lo :: (u.keys.map V.int ++ [])))) := same_new hy1
        generalize upd H6 y1 (.tup (V.int lo :: (u.keys.map V.int ++ []))) = H7 at hy1' s7
        refine ⟨_, rfl, q1, _, rfl, .inl (SqT.of (s7 _ _ hq1)), _, rfl, ?_, fun y2 hy2 => ?_⟩
        · rw [List.length_append, List.length_map]
          exact Nat.le_trans (by show _ + 1 ≤ 1001; omega) (by decide)
        have hy2' : upd H7 y2 (.tup (u.keys.map V.int ++ [V.int hi])) y2 = some (.tup ((u.keys ++ [hi]).map V.int)) := by
          rw [upd_same, List.map_append]
          rfl
        have s8 := s7.trans (same_new (o := .tup (u.keys.map V.int ++ [V.int hi])) hy2)
        have hy18 := same_new (o := .tup (u.keys.map V.int ++ [V.int hi])) hy2 _ _ hy1'
        generalize upd H7 y2 (.tup (u.keys.map V.int ++ [V.int hi])) = H8 at hy2' s8 hy18
        have nb : ∀ {q : Addr} {xs : List V}, H8 q = some (.tup xs) → q ≠ b := fun {q xs} h e => by
          rw [e, s8 _ _ hb6] at h
          cases h
        refine ⟨q2, y1, y2, _, _, _, rfl, (hq2.same s8).sq, SqT.of hy18, SqT.of hy2', ?_⟩
        have lz : u.kids.length = min (min ((u.kids.map (num m)).map V.int).length ((lo :: u.keys).map V.int).length) ((u.keys ++ [hi]).map V.int).length := by
          simp only [List.length_map, List.length_append, List.length_cons, List.length_nil]
          omega
        refine for_it (RU.walk_zip3 lz) (fun j σ H' => ∃ v10 v11 v12, σ = [some (.ref lv), some (.ref d), some (.ref b), some (.ref aj), some (.int (num (m + 1) u)), some (.int lo), some (.int hi), some (.str "node"), some (.ref q1), some (.ref q2), v10, v11, v12] ∧ (∀ c o, c ≠ b → H8 c = some o → H' c = some o) ∧
          ∃ es', H' b = some (.dK es') ∧ es'.length ≤ done.flatten.length + F.length + (kidsF (F.take i)).length + j ∧ (∀ w ∈ F.drop (i + 1), BK H' b (m + 1) w) ∧ ∀ k ∈ kidsF (F.take i) ++ u.kids.take j, BK H' b m k)
          ⟨_, _, _, rfl, fun _ _ _ e => e, es6, s8 _ _ hb6, hes6, fun w hw => (hd6 w (by rw [edrop]; exact List.mem_cons_of_mem _ hw)).same s8, fun k hk => (hk6 k (by rw [List.take_zero, List.append_nil] at hk; exact hk)).same s8⟩ (fun j σ H' _ z => ?_) ?_ ?_
        · obtain ⟨_, _, _, _, f, _⟩ := z
          exact ⟨(FzT.keep (Keep.but (p := b) f fun u e => by rw [s8 _ _ hb6] at e; cases e; rfl) (hq2.same s8)).sq, SqT.of (f _ _ (nb hy18) hy18), SqT.of (f _ _ (nb hy2') hy2')⟩
        · rintro j x σ H9 Ha hj ⟨v10, v11, v12, rfl, f9, es9, hb9, hes9, hd9, hk9⟩ ⟨tz, x1, x2, x3, rfl, htz, rfl, g1, g2, g3⟩
          obtain ⟨n, hn, rfl⟩ := map_at g1
          obtain ⟨k, hk, rfl⟩ := map_at hn
          obtain ⟨a', b', ha', hb', hR⟩ := KBs.at hKB hk
          obtain ⟨a2, ha2, rfl⟩ := map_at g2
          obtain ⟨b2, hb2, rfl⟩ := map_at g3
          rw [ha'] at ha2
          rw [hb'] at hb2
          obtain rfl := Option.some.inj ha2
          obtain rfl := Option.some.inj hb2
          refine ⟨tz, _, rfl, SqT.of upd_same, rfl, _, _, rfl, _, _, rfl, _, _, rfl, rfl, ?_⟩
          refine ⟨_, rfl, _, rfl, by show 2 ≤ sizeLine; decide, fun t7 ht7 => ?_⟩
          have sA := (same_new (o := .tup [V.int (num m k), .int a', .int b']) htz).trans (same_new (o := .tup [.int a', .int b']) ht7)
          have ht7' : upd (upd H9 tz (.tup [V.int (num m k), .int a', .int b'])) t7 (.tup [.int a', .int b']) t7 = some (.tup [.int a', .int b']) := upd_same
          generalize upd (upd H9 tz (.tup [V.int (num m k), .int a', .int b'])) t7 (.tup [.int a', .int b']) = HB at sA ht7'
          have hbB := sA _ _ hb9
          refine ⟨_, rfl, _, rfl, b, _, rfl, DPut.k (k := .inl (num m k)) hbB ?_, ?_⟩
          · exact Nat.lt_of_le_of_lt (by omega : es9.length ≤ 1000) (by decide)
          have mk : k ∈ u.kids := List.mem_of_getElem? hk
          have mkF : num m k ∈ (kidsF F).map (num m) := List.mem_map_of_mem (List.mem_flatMap.mpr ⟨u, mu, mk⟩)
          refine ⟨_, _, _, rfl, fun c o nc e => ?_, _, upd_same, ?_, fun w hw => ?_, fun k' hk' => ?_⟩
          · rw [upd_ne nc]
            exact sA _ _ (f9 c o nc e)
          · have := length_putK es9 (.inl (num m k)) (V.ref t7)
            omega
          · refine ((hd9 w hw).same sA).put hbB fun e => ?_
            have mw : num (m + 1) w ∈ F.map (num (m + 1)) := List.mem_map_of_mem (List.mem_of_mem_drop hw)
            rw [e] at mw
            exact (List.nodup_append.mp hnd).2.2 _ mw _ mkF rfl
          · rw [take_more hk, ← List.append_assoc] at hk'
            rcases List.mem_append.mp hk' with hk' | hk'
            · refine ((hk9 k' hk').same sA).put hbB fun e => ?_
              have z := (List.nodup_append.mp hnd).2.1
              have ek : kidsF F = (kidsF (F.take i) ++ u.kids.take j) ++ (k :: (u.kids.drop (j + 1) ++ kidsF (F.drop (i + 1)))) := by
                have z2 : u.kids = u.kids.take j ++ (k :: u.kids.drop (j + 1)) := by
                  have hjl := (List.getElem?_eq_some_iff.mp hk).1
                  have z3 : u.kids.drop j = k :: u.kids.drop (j + 1) := by rw [List.drop_eq_getElem_cons hjl, (List.getElem?_eq_some_iff.mp hk).2]
                  rw [← z3, List.take_append_drop]
                rw [ekF]
                conv => lhs; rw [z2]
                simp
              rw [ek, List.map_append, List.map_cons] at z
              exact (List.nodup_append.mp z).2.2 _ (List.mem_map_of_mem hk') _ (List.mem_cons_self ..) e
            · obtain rfl := List.mem_singleton.mp hk'
              exact ⟨a', b', Has.new hbB ht7', hR⟩
        · rintro σ H9 ⟨v10, v11, v12, rfl, f9, es9, hb9, hes9, hd9, hk9⟩
          rw [List.take_length] at hk9
          refine ⟨_, _, _, _, _, _, _, _, _, rfl, fun c o nc e => f9 _ _ nc (s8 _ _ (f6 c o nc e)), es9, hb9, ?_, hd9, ?_⟩
          · have e9 : (kidsF (F.take (i + 1))).length = (kidsF (F.take i)).length + u.kids.length := by
              unfold kidsF
              rw [take_more hu, List.flatMap_append]
              simp
            omega
          · intro k hk
            refine hk9 k ?_
            unfold kidsF at hk ⊢
            rw [take_more hu, List.flatMap_append] at hk
            simpa using hk
      · rintro σ H6 ⟨v4, v5, v6, v7, v8, v9, v10, v11, v12, rfl, f6, es6, hb6, hes6, hd6, hk6⟩
        rw [List.length_map, List.length_map, List.take_length] at hes6 hk6
        refine ⟨_, _, _, _, _, _, _, _, _, _, rfl, f6, m, kidsF F, done ++ [F.map (num (m + 1))], es6, by rw [List.length_append, hj]; rfl, by rw [List.append_assoc]; exact hdone, hb6, ?_, fun k hk => ?_⟩
        · rw [List.flatten_append, List.length_append, List.flatten_cons, List.flatten_nil, List.append_nil, List.length_map]
          exact hes6
        · obtain ⟨u, hu, hk'⟩ := List.mem_flatMap.mp hk
          obtain ⟨⟨_, h1⟩, h2, _⟩ := hF u hu
          exact ⟨h1 k hk', h2.2.2.2 k hk', hk6 k hk⟩
    · rintro σ H5 ⟨v3, v4, v5, v6, v7, v8, v9, v10, v11, v12, rfl, f5, m0, F, done, es5, hj, hdone, hb5, hes5, hF⟩
      rw [List.length_take] at hj
      obtain rfl : m0 = 0 := by
        have z := congrArg List.length hdone
        rw [List.length_append, rows_len, rows_len] at z
        omega
      refine ⟨_, rfl, kq H5 b F (fr f5) ?_ (fun u hu => (hF u hu).1) fun u hu => (hF u hu).2.2⟩
      rw [← hdone]
      show (done ++ [F.map (num 0)]).getLast? = _
      rw [List.getLast?_append]
      rfl
end
end K29

namespace K29
open PySem PySem.Spec PyProof.Rows L2 RZ HX TR
theorem last_at {α β : Type} {R : α → β → Prop} {xs : List α} {ys : List β} {y : β} (h : Paired R xs ys) (e : ys.getLast? = some y) : ∃ x, atI xs (-1) = some x ∧ R x y := by
  have hl := Paired.length h
  have hn : ys ≠ [] := fun z => by rw [z] at e; cases e
  have h0 : 0 < ys.length := List.length_pos_iff.mpr hn
  rw [List.getLast?_eq_getElem?] at e
  obtain ⟨x, hx, r⟩ := pget2 h e
  exact ⟨x, at_last (n := ys.length - 1) (by omega) hx, r⟩
section
variable {P : Program} {w : World} {K : PySem.W.Frag} {mg : Str → Option Value} {base : Heap}
def sp_keys_fit : Sp := fun vs H Q _ => ∃ (l : Nat) (t : Tr l) (S : List (Int × Pg)) (lv d : Addr), vs = [.ref lv, .ref d] ∧ LevAt H lv (rows l [t]) ∧ DctAt H d S ∧ Laid S l t ∧ KeyOk l t ∧ KeyB l t 0 1000000001 ∧ (nums l t).Nodup ∧ (nums l t).length ≤ 1000 ∧ l ≤ 100 ∧ (∀ q ∈ S, PgOk q.2) ∧
  ∀ H', Same H H' → Q (.bl true) H'
theorem ok_keys_fit (T : TX K mg) : FnOk P w K mg base CX0 2 (He.ga K "keys_fit") T.fd_keys_fit ["levels", "pages"] sp_keys_fit := by
  have G_bounds_of : FnOk P w K mg base CX0 1 (He.ga K "bounds_of") T.fd_bounds_of ["levels", "pages"] sp_bounds_of := ok_bounds_of T
  have b_bounds_of := b_bounds_of T
  refine T.F_keys_fit.ok sc_keys_fit (fun vs H Q E h => ?_) (fun cdv A outer st H vs Q E hr h => ?_)
  · obtain ⟨l, t, S, lv, d, rfl, _⟩ := h
    rfl
  · obtain ⟨l, t, S, lv, d, rfl, hlv, hd, hL, hK, hB, nd, few, hl, hg, kq⟩ := h
    refine ⟨_, PSs.nox (pss_cons (ps_set (i := 2) sc_keys_fit.nd rfl (Or.inl rfl) (pe_call G_bounds_of (hr.mono (by first | decide | omega)) rfl T.g_bounds_of T.F_bounds_of.kp b_bounds_of .nil pass0 (pa_cons (pv 0) (pa_cons (pv 1) pa_nil))))
 (pss_cons (ps_for PassesOwn.never rfl (pi_list (pe_ix ix_list (pv 0) (pe_un un_neg pe_int) (fun _ _ => rfl))) (pg_name (i := 3) sc_keys_fit.nd rfl (Or.inl rfl))
 (pss_cons (ps_asg (pe_dget (hu_of hr) (pv 2) (pv 3) (fun _ _ => rfl)) (pg_tup rfl (pgs_cons (pg_name (i := 4) sc_keys_fit.nd rfl (Or.inr rfl)) (pgs_cons (pg_name (i := 5) sc_keys_fit.nd rfl (Or.inr rfl)) pgs_nil))))
 (pss_one (ps_if (pt_not (pt_val (pe_callB (cr_all rfl) rfl T.n_all (by decide +kernel) (pa_cons (pe_lc (own := [("pair", 6)]) (g := gName 6) (tt := tYes) rfl sc_keys_fit.nd (pi_tup (pe_ix ix_tup (pe_dget (hu_of hr) (pv 1) (pv 3) (fun _ _ => rfl)) pe_int (fun _ _ => rfl))) (blkOk_by (own := [("pair", 6)]) (N := ["levels", "pages", "bounds", "number", "low", "high", "pair"]) (sc := defScope s_keys_fit) (by decide +kernel)) (fun _ _ _ _ _ => (pg_name (i := 6) sc_keys_fit.nd rfl (Or.inl rfl))) (fun _ _ _ _ _ => pts_nil) (fun _ _ _ _ _ => (pe_chain op_le op_lt (pv 4) (pe_ix (ixt K) (pv 6) pe_int (fun _ _ => rfl)) (pv 5)))) pa_nil))))
 (pss_one (ps_ret pe_bl))
 pss_nil))))
 (pss_one (ps_ret pe_bl)))), ?_⟩
    refine ⟨_, rfl, _, rfl, l, t, S, lv, d, rfl, hlv, hd, hL, hK, hB, nd, few, hl, fun H1 b F s1 hlast hFL hbd => ?_⟩
    obtain ⟨vs, hv1, hvs⟩ := hlv.same s1
    obtain ⟨x, hx, a, rfl, _, ha⟩ := last_at hvs hlast
    refine ⟨_, rfl, 1, rfl, lv, _, _, _, rfl, rfl, SqL.of hv1, hx, a, rfl, ⟨_, SqL.of ha⟩, ?_⟩
    refine for_list (xs := (F.map (num 0)).map V.int) (fun i σ H' => ∃ v3 v4 v5, σ = [some (.ref lv), some (.ref d), some (.ref b), v3, v4, v5, none] ∧ Same H1 H') ⟨_, _, _, rfl, Same.refl H1⟩ (fun i σ H' _ z => ?_) ?_ ?_
    · obtain ⟨_, _, _, _, s⟩ := z
      exact SqL.of (s _ _ ha)
    · rintro i x σ H2 hx2 ⟨v3, v4, v5, rfl, s2⟩
      obtain ⟨n, hn, rfl⟩ := map_at hx2
      obtain ⟨u, hu, rfl⟩ := map_at hn
      have mu := List.mem_of_getElem? hu
      obtain ⟨lo, hi, ⟨es, t', hb, hv, ht'⟩, hKB⟩ := (hbd u mu).same s2
      obtain ⟨nx, hk⟩ := hFL u mu
      have hd2 := (hd.same s1).same s2
      obtain ⟨v, hv2, t1, q, rfl, ht1, ys, hq, hpy⟩ := hd2.get hk
      have hps : u.ps.length ≤ 1000 := (hg _ (lkp_mem hk)).2.2.2.2
      refine ⟨_, rfl, _, rfl, b, .ref t', rfl, hv ▸ DGet.k (k := .inl (num 0 u)) hb, t', _, rfl, SqT.of ht', rfl, _, _, rfl, _, _, rfl, rfl, ?_⟩
      refine ⟨_, rfl, _, rfl, d, _, rfl, hv2, t1, _, _, _, rfl, rfl, SqT.of ht1, rfl, q, rfl, ⟨_, hq.sq⟩, fun D hD => ?_⟩
      have hyl := Paired.length hpy
      refine lc_it (walk_tup (xs := ys)) (fun j H' => Same H2 H' ∧ H' D = some (.lst ((List.replicate j true).map V.bl))) ⟨same_new hD, upd_same⟩ (fun j H' _ z => (hq.same z.1).sq) ?_ ?_
      · rintro j x H3 H4 hj ⟨s3, hD3⟩ ⟨rfl, hx3⟩
        obtain ⟨pr, hpr, t2, rfl, ht2⟩ := pget1 hpy hx3
        obtain ⟨k1, k2⟩ := hKB pr (List.mem_of_getElem? hpr)
        refine ⟨rfl, ?_⟩
        dsimp only [tYes]
        rw [if_pos rfl]
        refine ⟨_, rfl, _, rfl, t2, _, _, _, rfl, rfl, SqT.of (s3 _ _ ht2), rfl, _, _, rfl, rfl, true, congrArg V.bl (decide_eq_true k1), iteT ?_⟩
        refine ⟨_, rfl, _, _, rfl, rfl, _, hD3, ?_, same_upd s3 hD, ?_⟩
        · rw [List.length_map, List.length_replicate]
          exact Nat.lt_of_le_of_lt (by omega : j ≤ 1000) (by decide)
        · rw [upd_same, ← rep_snoc]
          show some (HO.lst (_ ++ [V.bl (decide (pr.1 < hi))])) = _
          rw [decide_eq_true k2]
      · rintro H3 ⟨s3, hD3⟩
        refine ⟨D, _, rfl, SqL.of hD3, ?_⟩
        rw [rep_true]
        exact ⟨true, rfl, iteF ⟨_, _, _, rfl, s2.trans s3⟩⟩
    · rintro σ H2 ⟨v3, v4, v5, rfl, s2⟩
      exact kq H2 (s1.trans s2)
/-- a sound tree as it stands in a heap -/
structure SndAt (H : Hp) (v : V) (room l : Nat) (t : Tr l) (S : List (Int × Pg)) : Prop where
  tree : Tree room l t S
  at_ : TreeAt H v room (num l t) S
theorem pgOk_of {room : Nat} : ∀ {l : Nat} {top : Bool} {t : Tr l} {S : List (Int × Pg)}, room ≤ 8 → Laid S l t → WfSh room l top (shp l t) → KeyOk l t → (∀ k ∈ nums l t, 1 ≤ k ∧ k ≤ 1000000) → (prs l t).Pairwise (fun a b => a.1 < b.1) → (∀ q ∈ prs l t, GoodPr q) →
    (∀ n ∈ lvs l t, ∀ ps nx, lkp S n = some (.leaf ps nx) → 0 ≤ nx ∧ nx ≤ 1000000) → ∀ k ∈ nums l t, ∀ g, lkp S k = some g → PgOk g
  | 0, _, t, S, r8, ⟨nx, h⟩, w, _, _, hp, hg, hn, k, hk, g, e => by
    obtain rfl := List.mem_singleton.mp hk
    rw [h] at e
    cases e
    have := hn _ (List.mem_singleton.mpr rfl) _ _ h
    have w2 : t.ps.length ≤ room := w.2
    exact ⟨hg, hp, this.1, this.2, by omega⟩
  | l + 1, _, t, S, r8, ⟨h, hl⟩, w, ⟨k1, k2, k3, k4⟩, hr, hp, hg, hn, k, hk, g, e => by
    have w2 := w.2.1
    have el : (shp (l + 1) t).ks.length = t.kids.length := List.length_map ..
    rw [el] at w2
    rcases List.mem_cons.mp hk with hk | hk
    · subst hk
      rw [h] at e
      cases e
      refine ⟨k1, k2, fun n hn => ?_, by rw [List.length_map]; exact k3, by rw [List.length_map]; omega⟩
      obtain ⟨u, hu, rfl⟩ := List.mem_map.mp hn
      refine hr _ (List.mem_cons_of_mem _ (List.mem_flatMap.mpr ⟨u, hu, ?_⟩))
      cases l with
      | zero => exact List.mem_singleton.mpr rfl
      | succ l => exact List.mem_cons_self ..
    · obtain ⟨u, hu, hk⟩ := List.mem_flatMap.mp hk
      refine pgOk_of r8 (hl u hu) (w.2.2 _ (List.mem_map_of_mem hu)) (k4 u hu) (fun k hk => hr k (List.mem_cons_of_mem _ (List.mem_flatMap.mpr ⟨u, hu, hk⟩))) ?_ (fun q hq => hg q (List.mem_flatMap.mpr ⟨u, hu, hq⟩)) (fun n hn' => hn n (List.mem_flatMap.mpr ⟨u, hu, hn'⟩)) k hk g e
      obtain ⟨i, hi⟩ := List.getElem?_of_mem hu
      have hp' : (t.kids.flatMap (prs l)).Pairwise (fun a b => a.1 < b.1) := hp
      exact hp'.sublist (by
        have hil := (List.getElem?_eq_some_iff.mp hi)
        obtain ⟨a, b, e⟩ := List.append_of_mem hu
        rw [e, List.flatMap_append, List.flatMap_cons]
        exact (List.sublist_append_left _ _).trans (List.sublist_append_right _ _))
theorem Tree.pgOk {room l : Nat} {t : Tr l} {S : List (Int × Pg)} (h : Tree room l t S) : ∀ q ∈ S, 1 ≤ q.1 ∧ q.1 ≤ 1000000 ∧ PgOk q.2 := fun q hq => by
  have m : q.1 ∈ nums l t := h.perm.mem_iff.mp (List.mem_map_of_mem hq)
  have ndS : (S.map (·.1)).Nodup := h.perm.nodup_iff.mpr h.nodup
  refine ⟨(h.range _ m).1, (h.range _ m).2, pgOk_of h.r8 h.laid h.wf h.keyOk h.range h.rising h.good (fun n hn ps nx e => ?_) q.1 m q.2 (mem_lkp ndS hq)⟩
  obtain ⟨j, hj⟩ := List.getElem?_of_mem hn
  obtain ⟨ps', e2⟩ := h.next j n (List.getElem?_eq_some_iff.mp hj).1 hj
  rw [e] at e2
  cases e2
  cases c : (lvs l t)[j + 1]? with
  | none => exact ⟨Int.le_refl 0, by decide⟩
  | some k =>
    have := h.range k (lvs_sub.subset (List.mem_of_getElem? c))
    exact ⟨by show 0 ≤ k; omega, this.2⟩
end
end K29

namespace K29
open PySem PySem.Spec PyProof.Rows L2 RZ HX TR
theorem num_pairs {K : PySem.W.Frag} {H : Hp} : ∀ {xs : List V} {S : List (Int × Pg)}, Paired (NumAt H) xs S → ∃ (ps : List Addr) (kvs : List (Key × V)), xs = ps.map V.ref ∧ Paired (fun p (kv : Key × V) => SqT K H p [kV kv.1, kv.2]) ps kvs ∧ Paired (EnAt H) kvs S ∧ kvs.map (·.1) = S.map fun q => (.inl q.1 : Key)
  | _, _, .nil => ⟨[], [], rfl, .nil, .nil, rfl⟩
  | _, _, .cons (b := q) r rs => by
    obtain ⟨ps, kvs, e, h1, h2, h3⟩ := num_pairs (K := K) rs
    obtain ⟨t, v, e1, ht, hv⟩ := r
    refine ⟨t :: ps, (.inl q.1, v) :: kvs, by rw [e, e1]; rfl, .cons (SqT.of ht) h1, .cons ⟨rfl, hv⟩ h2, by rw [List.map_cons, List.map_cons, h3]⟩
section
variable {P : Program} {w : World} {K : PySem.W.Frag} {mg : Str → Option Value} {base : Heap}
theorem lvs_ne : ∀ {l : Nat} {t : Tr l}, KeyOk l t → lvs l t ≠ []
  | 0, _, _ => fun e => by cases e
  | l + 1, t, h => fun e => by
    have h1 := h.2.2.1
    cases c : t.kids with
    | nil => rw [c] at h1; cases h1
    | cons u r =>
      have e2 : t.kids.flatMap (lvs l) = [] := e
      rw [c, List.flatMap_cons] at e2
      exact lvs_ne (h.2.2.2 u (by rw [c]; exact List.mem_cons_self ..)) (List.append_eq_nil_iff.mp e2).1
/-- dict(..) of a tree's pages -/
theorem pages_dict {H : Hp} {kvs : List (Key × V)} {S : List (Int × Pg)} (h2 : Paired (EnAt H) kvs S) (h3 : kvs.map (·.1) = S.map fun q => (.inl q.1 : Key)) (nd : (S.map (·.1)).Nodup) {d : Addr} (hd : H d = none) :
    Same H (upd H d (.dK (mergeK [] kvs))) ∧ DctAt (upd H d (.dK (mergeK [] kvs))) d S := by
  have hm : mergeK [] kvs = kvs := by
    rw [RU.mergeK_nodup]
    · rfl
    · rw [List.nil_append, h3]
      have e : (S.map fun q => (.inl q.1 : Key)) = (S.map (·.1)).map (fun k => (.inl k : Key)) := by rw [List.map_map]; rfl
      rw [e]
      exact List.Pairwise.map _ (fun a b h z => h (by injection z)) nd
  rw [hm]
  have s : Same H (upd H d (.dK kvs)) := same_new hd
  exact ⟨s, kvs, upd_same, paired_imp (fun _ _ (r : EnAt H _ _) => (⟨r.1, r.2.keep (Keep.of s)⟩ : EnAt _ _ _)) h2⟩
def sp_is_sound : Sp := fun vs H Q _ => ∃ (v : V) (room l : Nat) (t : Tr l) (S : List (Int × Pg)), vs = [v] ∧ SndAt H v room l t S ∧ l ≤ 100 ∧ ∀ H', Same H H' → Q (.bl true) H'
theorem ok_is_sound (T : TX K mg) : FnOk P w K mg base CX0 11 (He.ga K "is_sound") T.fd_is_sound ["thing"] sp_is_sound := by
  have G_is_row : FnOk P w K mg base CX0 1 (He.ga K "is_row") T.fd_is_row ["thing", "many"] sp_is_row := ok_is_row T
  have b_is_row := b_is_row T
  have G_is_room : FnOk P w K mg base CX0 3 (He.ga K "is_room") T.fd_is_room ["thing"] (sp_rng 3 8) := ok_is_room T
  have b_is_room := b_is_room T
  have G_is_page_number : FnOk P w K mg base CX0 3 (He.ga K "is_page_number") T.fd_is_page_number ["thing"] (sp_rng 1 1000000) := ok_is_page_number T
  have b_is_page_number := b_is_page_number T
  have G_are_numbered_pages : FnOk P w K mg base CX0 10 (He.ga K "are_numbered_pages") T.fd_are_numbered_pages ["thing"] sp_are_numbered_pages := ok_are_numbered_pages T
  have b_are_numbered_pages := b_are_numbered_pages T
  have G_levels_from : FnOk P w K mg base CX0 1 (He.ga K "levels_from") T.fd_levels_from ["root", "pages"] sp_levels_from := ok_levels_from T
  have b_levels_from := b_levels_from T
  have G_sizes_fit : FnOk P w K mg base CX0 2 (He.ga K "sizes_fit") T.fd_sizes_fit ["room", "root", "pages"] sp_sizes_fit := ok_sizes_fit T
  have b_sizes_fit := b_sizes_fit T
  have G_keys_fit : FnOk P w K mg base CX0 2 (He.ga K "keys_fit") T.fd_keys_fit ["levels", "pages"] sp_keys_fit := ok_keys_fit T
  have b_keys_fit := b_keys_fit T
  have G_nexts_fit : FnOk P w K mg base CX0 1 (He.ga K "nexts_fit") T.fd_nexts_fit ["leaves", "pages"] sp_nexts_fit := ok_nexts_fit T
  have b_nexts_fit := b_nexts_fit T
  refine T.F_is_sound.ok sc_is_sound (fun vs H Q E h => ?_) (fun cdv A outer st H vs Q E hr h => ?_)
  · obtain ⟨v, room, l, t, S, rfl, _⟩ := h
    rfl
  · obtain ⟨v, room, l, t, S, rfl, ⟨h, a, b, o, xs, rfl, ha, hb, ho, hx⟩, hl, kq⟩ := h
    refine ⟨_, PSs.nox (pss_cons (ps_if (pt_not (pt_val (pe_call G_is_row (hr.mono (by first | decide | omega)) rfl T.g_is_row T.F_is_row.kp b_is_row .nil pass0 (pa_cons (pv 0) (pa_cons pe_int pa_nil)))))
 (pss_one (ps_ret pe_bl))
 pss_nil)
 (pss_cons (ps_asg (pv 0) (pg_tup rfl (pgs_cons (pg_name (i := 1) sc_is_sound.nd rfl (Or.inl rfl)) (pgs_cons (pg_name (i := 2) sc_is_sound.nd rfl (Or.inl rfl)) (pgs_cons (pg_name (i := 3) sc_is_sound.nd rfl (Or.inl rfl)) pgs_nil)))))
 (pss_cons (ps_if (PW.pt (pw_or (pt_not (pt_val (pe_call G_is_room (hr.mono (by first | decide | omega)) rfl T.g_is_room T.F_is_room.kp b_is_room .nil pass0 (pa_cons (pv 1) pa_nil)))) (pw_or (pt_not (pt_val (pe_call G_is_page_number (hr.mono (by first | decide | omega)) rfl T.g_is_page_number T.F_is_page_number.kp b_is_page_number .nil pass0 (pa_cons (pv 2) pa_nil)))) (pw_or1 (pt_not (pt_val (pe_call G_are_numbered_pages (hr.mono (by first | decide | omega)) rfl T.g_are_numbered_pages T.F_are_numbered_pages.kp b_are_numbered_pages .nil pass0 (pa_cons (pv 3) pa_nil))))))))
 (pss_one (ps_ret pe_bl))
 pss_nil)
 (pss_cons (ps_set (i := 4) sc_is_sound.nd rfl (Or.inl rfl) (pe_callTy (RU.call_dictT rfl) rfl T.n_dict (by decide +kernel) (pa_cons (pv 3) pa_nil)))
 (pss_cons (ps_set (i := 5) sc_is_sound.nd rfl (Or.inl rfl) (pe_call G_levels_from (hr.mono (by first | decide | omega)) rfl T.g_levels_from T.F_levels_from.kp b_levels_from .nil pass0 (pa_cons (pv 2) (pa_cons (pv 4) pa_nil))))
 (pss_cons (ps_if (PW.pt (pw_or (pt_cmpR op_isN (pv 5) pe_non (nomark _)) (pw_or1 (pt_not (pt_val (pe_call G_sizes_fit (hr.mono (by first | decide | omega)) rfl T.g_sizes_fit T.F_sizes_fit.kp b_sizes_fit .nil pass0 (pa_cons (pv 1) (pa_cons (pv 2) (pa_cons (pv 4) pa_nil)))))))))
 (pss_one (ps_ret pe_bl))
 pss_nil)
 (pss_one (ps_ret (pe_and (pe_call G_keys_fit (hr.mono (by first | decide | omega)) rfl T.g_keys_fit T.F_keys_fit.kp b_keys_fit .nil pass0 (pa_cons (pv 5) (pa_cons (pv 4) pa_nil))) (pe_one (pe_call G_nexts_fit (hr.mono (by first | decide | omega)) rfl T.g_nexts_fit T.F_nexts_fit.kp b_nexts_fit .nil pass0 (pa_cons (pe_ix ix_list (pv 5) (pe_un un_neg pe_int) (fun _ _ => rfl)) (pa_cons (pv 4) pa_nil))))))))))))), ?_⟩
    have r3 := h.r3
    have r8 := h.r8
    have hroot := h.range (num l t) (by cases l <;> simp [nums])
    have hlen : S.length = (nums l t).length := by
      have z := h.perm.length_eq
      rw [List.length_map] at z
      exact z
    have ndS : (S.map (·.1)).Nodup := h.perm.nodup_iff.mpr h.nodup
    have hne : S ≠ [] := fun e => by
      rw [e] at hlen
      cases l <;> simp [nums] at hlen
    have few := h.few
    refine ⟨_, rfl, a, _, _, rfl, ha, true, rfl, iteF ?_⟩
    refine ⟨_, rfl, a, _, rfl, SqT.of ha, rfl, _, _, rfl, _, _, rfl, _, _, rfl, rfl, ?_⟩
    refine ⟨_, rfl, (room : Int), rfl, ?_⟩
    rw [decide_eq_true (by omega : (3 : Int) ≤ (room : Int)), decide_eq_true (by omega : (room : Int) ≤ 8)]
    refine ⟨true, rfl, iteF ?_⟩
    refine ⟨_, rfl, num l t, rfl, ?_⟩
    rw [decide_eq_true hroot.1, decide_eq_true hroot.2]
    refine ⟨true, rfl, iteF ?_⟩
    refine ⟨_, rfl, b, o, xs, S, rfl, hb, hx, K29.Tree.pgOk h, h.sorted, hne, by omega, fun H1 s1 => ⟨true, rfl, iteF ?_⟩⟩
    obtain ⟨ps, kvs, e, p1, p2, p3⟩ := num_pairs (K := K) (paired_imp (fun _ _ r => NumAt.keep (Keep.of s1) r) hx)
    subst e
    refine ⟨_, rfl, b, o, ps, kvs, rfl, s1 _ _ hb, ho, p1, fun d hd0 => ?_⟩
    obtain ⟨s2, hd⟩ := pages_dict p2 p3 ndS hd0
    generalize upd H1 d (.dK (mergeK [] kvs)) = H2 at s2 hd
    refine ⟨_, rfl, _, rfl, l, t, S, d, rfl, hd, h.laid, h.keyOk, h.nodup, hlen, by omega, hl, fun H3 lv s3 hlv => ?_⟩
    refine ⟨_, rfl, rfl, _, rfl, iteF ?_⟩
    refine ⟨_, rfl, _, rfl, _, rfl, room, l, t, S, d, rfl, hd.same s3, h.laid, h.wf, h.nodup, h.perm, fun H4 s4 => ⟨true, rfl, iteF ?_⟩⟩
    refine ⟨_, rfl, _, rfl, l, t, S, lv, d, rfl, hlv.same s4, (hd.same s3).same s4, h.laid, h.keyOk, h.keyB, h.nodup, by omega, hl, fun q hq => (K29.Tree.pgOk h q hq).2.2, fun H5 s5 => ⟨true, rfl, iteT ?_⟩⟩
    obtain ⟨vs, hv5, hvs⟩ := (hlv.same s4).same s5
    have hlast : (rows l [t]).getLast? = some (lvs l t) := by
      have z := rows_last [t]
      rw [List.flatMap_cons, List.flatMap_nil, List.append_nil] at z
      exact z
    obtain ⟨x, hx5, a5, rfl, _, ha5⟩ := last_at hvs hlast
    have hll := lvs_len (l := l) (t := t)
    exact ⟨_, rfl, 1, rfl, lv, _, _, _, rfl, rfl, SqL.of hv5, hx5, _, rfl, lvs l t, S, a5, d, rfl, ha5, ((hd.same s3).same s4).same s5, h.next, lvs_ne h.keyOk, by omega, fun H6 s6 => kq H6 (((((s1.trans s2).trans s3).trans s4).trans s5).trans s6)⟩
def sp_need_tree : Sp := fun vs H Q _ => ∃ (v : V) (room l : Nat) (t : Tr l) (S : List (Int × Pg)), vs = [v] ∧ SndAt H v room l t S ∧ l ≤ 100 ∧ ∀ H', Same H H' → Q .non H'
theorem ok_need_tree (T : TX K mg) : FnOk P w K mg base CX0 12 (He.ga K "need_tree") T.fd_need_tree ["thing"] sp_need_tree := by
  have G_is_sound : FnOk P w K mg base CX0 11 (He.ga K "is_sound") T.fd_is_sound ["thing"] sp_is_sound := ok_is_sound T
  have b_is_sound := b_is_sound T
  refine T.F_need_tree.ok sc_need_tree (fun vs H Q E h => ?_) (fun cdv A outer st H vs Q E hr h => ?_)
  · obtain ⟨v, room, l, t, S, rfl, _⟩ := h
    rfl
  · obtain ⟨v, room, l, t, S, rfl, h, hl, kq⟩ := h
    refine ⟨_, PSs.nox (pss_one (ps_if (pt_not (pt_val (pe_call G_is_sound (hr.mono (by first | decide | omega)) rfl T.g_is_sound T.F_is_sound.kp b_is_sound .nil pass0 (pa_cons (pv 0) pa_nil))))
 (pss_one ps_never)
 pss_nil)), ?_⟩
    exact ⟨_, rfl, v, room, l, t, S, rfl, h, hl, fun H1 s1 => ⟨true, rfl, iteF (kq H1 s1)⟩⟩
end
end K29

namespace K29
open PySem PySem.Spec PyProof.Rows L2 RZ HX TR
def bfs (room root half : Int) (d : Addr) : List (Str × V) := putF "pages" (.ref d) (putF "half" (.int half) (putF "root" (.int root) (putF "room" (.int room) [])))
section
variable {P : Program} {w : World} {K : PySem.W.Frag} {mg : Str → Option Value} {base : Heap}
def sp_Book_init (K : PySem.W.Frag) : Sp := fun vs H Q _ => ∃ (s dx : Addr) (v : V) (room l : Nat) (t : Tr l) (S : List (Int × Pg)), vs = [.ref s, v] ∧ H s = some (.ins (He.ga K "Book") dx []) ∧ SndAt H v room l t S ∧
  ∀ (H' : Hp) (d : Addr), But s H H' → H' s = some (.ins (He.ga K "Book") dx (bfs (room : Int) (num l t) (((room + 1) / 2 : Nat) : Int) d)) → DctAt H' d S → H d = none → Q .non H'
theorem ok_Book_init (T : TX K mg) : FnOk P w K mg base CX0 2 (He.ma K (He.ga K "Book") "__init__") T.fd_Book_init ["self", "tree"] (sp_Book_init K) := by
  have G_half_of : FnOk P w K mg base CX0 1 (He.ga K "half_of") T.fd_half_of ["room"] sp_half_of := ok_half_of T
  have b_half_of := b_half_of T
  refine T.F_Book_init.ok sc_Book_init (fun vs H Q E h => ?_) (fun cdv A outer st H vs Q E hr h => ?_)
  · obtain ⟨s, dx, v, room, l, t, S, rfl, _⟩ := h
    rfl
  · obtain ⟨s, dx, v, room, l, t, S, rfl, hs, ⟨h, a, b, o, xs, rfl, ha, hb, ho, hx⟩, kq⟩ := h
    refine ⟨_, PSs.nox (pss_cons (ps_asg (pv 1) (pg_tup rfl (pgs_cons (RU.pg_fld (pv 0)) (pgs_cons (RU.pg_fld (pv 0)) (pgs_cons (pg_name (i := 2) sc_Book_init.nd rfl (Or.inl rfl)) pgs_nil)))))
 (pss_cons (ps_fld (pv 0) (pe_call G_half_of (hr.mono (by first | decide | omega)) rfl T.g_half_of T.F_half_of.kp b_half_of .nil pass0 (pa_cons (pe_fld (pv 0) rfl) pa_nil)) rfl)
 (pss_one (ps_fld (pv 0) (pe_callTy (RU.call_dictT rfl) rfl T.n_dict (by decide +kernel) (pa_cons (pv 2) pa_nil)) rfl)))), ?_⟩
    have l0 : ([] : List (Str × V)).length < 1 := Nat.lt_succ_self 0
    have ndS : (S.map (·.1)).Nodup := h.perm.nodup_iff.mpr h.nodup
    refine ⟨_, rfl, a, _, rfl, SqT.of ha, rfl, _, _, rfl, _, rfl, s, _, dx, _, rfl, hs, T.cl_Book, T.na_Book_room, by show 0 < 1000; decide, _, _, rfl, _, rfl, s, _, dx, _, rfl, upd_same, T.cl_Book, T.na_Book_root, Nat.lt_trans (putF_lt l0) (by decide), _, _, rfl, rfl, ?_⟩
    have a2 : But s H (upd (upd H s (.ins (He.ga K "Book") dx (putF "room" (.int (room : Int)) []))) s (.ins (He.ga K "Book") dx (putF "root" (.int (num l t)) (putF "room" (.int (room : Int)) [])))) := ((But.refl s H).upd).upd
    have s2 : upd (upd H s (.ins (He.ga K "Book") dx (putF "room" (.int (room : Int)) []))) s (.ins (He.ga K "Book") dx (putF "root" (.int (num l t)) (putF "room" (.int (room : Int)) []))) s = some (.ins (He.ga K "Book") dx (putF "root" (.int (num l t)) (putF "room" (.int (room : Int)) []))) := upd_same
    generalize upd (upd H s (.ins (He.ga K "Book") dx (putF "room" (.int (room : Int)) []))) s (.ins (He.ga K "Book") dx (putF "root" (.int (num l t)) (putF "room" (.int (room : Int)) []))) = H2 at a2 s2
    refine ⟨_, rfl, s, _, dx, _, _, rfl, s2, T.cl_Book, T.na_Book_room, lk_miss (by decide +kernel) (lk_hit _ _ _), room, rfl, _, rfl, s, _, dx, _, rfl, s2, T.cl_Book, T.na_Book_half, Nat.lt_trans (putF_lt (putF_lt l0)) (by decide), ?_⟩
    have a3 : But s H (upd H2 s (.ins (He.ga K "Book") dx (putF "half" (.int (((room + 1) / 2 : Nat) : Int)) (putF "root" (.int (num l t)) (putF "room" (.int (room : Int)) []))))) := a2.upd
    have s3 : upd H2 s (.ins (He.ga K "Book") dx (putF "half" (.int (((room + 1) / 2 : Nat) : Int)) (putF "root" (.int (num l t)) (putF "room" (.int (room : Int)) [])))) s = some (.ins (He.ga K "Book") dx (putF "half" (.int (((room + 1) / 2 : Nat) : Int)) (putF "root" (.int (num l t)) (putF "room" (.int (room : Int)) [])))) := upd_same
    generalize upd H2 s (.ins (He.ga K "Book") dx (putF "half" (.int (((room + 1) / 2 : Nat) : Int)) (putF "root" (.int (num l t)) (putF "room" (.int (room : Int)) [])))) = H3 at a3 s3
    have nbs : b ≠ s := fun e => by rw [e, hs] at hb; cases hb
    have k3 : Keep H H3 := Keep.but a3 fun ys e => by rw [hs] at e; cases e; rfl
    obtain ⟨ps, kvs, e, p1, p2, p3⟩ := num_pairs (K := K) (paired_imp (fun _ _ r => NumAt.keep k3 r) hx)
    subst e
    refine ⟨_, rfl, b, o, ps, kvs, rfl, a3 _ _ nbs hb, ho, p1, fun d hd0 => ?_⟩
    obtain ⟨s4, hd⟩ := pages_dict p2 p3 ndS hd0
    have hdn : H d = none := by
      cases z : H d with
      | none => rfl
      | some u => exact absurd (a3 _ _ (fun e => by rw [e, s3] at hd0; cases hd0) z) (by rw [hd0]; simp)
    generalize upd H3 d (.dK (mergeK [] kvs)) = H4 at s4 hd
    have hs4 := s4 _ _ s3
    refine ⟨_, rfl, s, _, dx, _, rfl, hs4, T.cl_Book, T.na_Book_pages, Nat.lt_trans (putF_lt (putF_lt (putF_lt l0))) (by decide), ?_⟩
    refine kq _ d ((a3.trans (But.of s4)).upd) upd_same ?_ hdn
    obtain ⟨es, h1, h2⟩ := hd
    have k5 : Keep H4 (upd H4 s (.ins (He.ga K "Book") dx (bfs (room : Int) (num l t) (((room + 1) / 2 : Nat) : Int) d))) := (Keep.refl H4).upd fun ys e => by rw [hs4] at e; cases e; rfl
    exact ⟨es, by rw [upd_ne (fun e => by rw [e, hs4] at h1; cases h1)]; exact h1, paired_imp (fun _ _ (r : EnAt H4 _ _) => (⟨r.1, r.2.keep k5⟩ : EnAt _ _ _)) h2⟩
end
end K29

namespace K29
open PySem PySem.Spec PyProof.Rows L2 RZ HX TR
def wayOf : (l : Nat) → Tr l → Int → List Int
  | 0, t, _ => [num 0 t]
  | l + 1, t, k => num (l + 1) t :: (match t.kids[placeOf t.keys k]? with
    | some u => wayOf l u k
    | none => [])
theorem wayOf_cons : ∀ {l : Nat} {t : Tr l} {k : Int}, ∃ r, wayOf l t k = num l t :: r
  | 0, _, _ => ⟨[], rfl⟩
  | _ + 1, _, _ => ⟨_, rfl⟩
theorem wayOf_len : ∀ {l : Nat} {t : Tr l} {k : Int}, (wayOf l t k).length ≤ l + 1
  | 0, _, _ => Nat.le_refl _
  | l + 1, t, k => by
    show (num (l + 1) t :: _).length ≤ _
    rw [List.length_cons]
    split
    · exact Nat.succ_le_succ wayOf_len
    · exact Nat.succ_le_succ (Nat.zero_le _)
theorem place_lt {l : Nat} {t : Tr (l + 1)} (h : KeyOk (l + 1) t) (k : Int) : ∃ u, t.kids[placeOf t.keys k]? = some u ∧ u ∈ t.kids := by
  have h1 := h.2.2.1
  have h2 : placeOf t.keys k ≤ t.keys.length := List.length_filter_le _ _
  have h3 : placeOf t.keys k < t.kids.length := by omega
  exact ⟨_, List.getElem?_eq_getElem h3, List.getElem_mem h3⟩
theorem bfs_no {room root half : Int} {d : Addr} {x : Str} (h1 : ¬ ("room" : Str) = x) (h2 : ¬ ("root" : Str) = x) (h3 : ¬ ("half" : Str) = x) (h4 : ¬ ("pages" : Str) = x) : (bfs room root half d).lookup x = none :=
  lk_miss h4 (lk_miss h3 (lk_miss h2 (lk_miss h1 rfl)))
section
variable {P : Program} {w : World} {K : PySem.W.Frag} {mg : Str → Option Value} {base : Heap}
def sp_Book_way (K : PySem.W.Frag) : Sp := fun vs H Q _ => ∃ (s dx d : Addr) (room half k : Int) (l : Nat) (t : Tr l) (S : List (Int × Pg)), vs = [.ref s, .int k] ∧ H s = some (.ins (He.ga K "Book") dx (bfs room (num l t) half d)) ∧ DctAt H d S ∧ Laid S l t ∧ KeyOk l t ∧ (nums l t).length ≤ 1000 ∧ l ≤ 100 ∧
  ∀ (H' : Hp) (a : Addr), Same H H' → H' a = some (.tup ((wayOf l t k).map V.int)) → Q (.ref a) H'
theorem keys_few : ∀ {l : Nat} {t : Tr l}, KeyOk l t → (nums l t).length ≤ 1000 → ∀ {m : Nat} {u : Tr (m + 1)}, l = m + 1 → HEq t u → u.keys.length ≤ 1000
  | l, t, hK, few, m, u, e, he => by
    subst e
    cases he
    have h1 := hK.2.2.1
    have h2 : u.kids.length ≤ (u.kids.flatMap (nums m)).length := by
      rw [List.length_flatMap]
      generalize u.kids = ks
      induction ks with
      | nil => exact Nat.zero_le _
      | cons a r ih =>
        rw [List.map_cons, List.sum_cons, List.length_cons]
        have : 1 ≤ (nums m a).length := by cases m <;> simp [nums]
        omega
    have h3 : (nums (m + 1) u).length = (u.kids.flatMap (nums m)).length + 1 := rfl
    omega
theorem kid_few {l : Nat} {t : Tr (l + 1)} {u : Tr l} (hu : u ∈ t.kids) (few : (nums (l + 1) t).length ≤ 1000) : (nums l u).length ≤ 1000 := by
  obtain ⟨a, b, e⟩ := List.append_of_mem hu
  have h3 : (nums (l + 1) t).length = (t.kids.flatMap (nums l)).length + 1 := rfl
  rw [e, List.flatMap_append, List.flatMap_cons, List.length_append, List.length_append] at h3
  omega
theorem ok_Book_way (T : TX K mg) : FnOk P w K mg base CX0 2 (He.ma K (He.ga K "Book") "way") T.fd_Book_way ["self", "key"] (sp_Book_way K) := by
  have G_kid_place : FnOk P w K mg base CX0 1 (He.ga K "kid_place") T.fd_kid_place ["keys", "key"] sp_kid_place := ok_kid_place T
  have b_kid_place := b_kid_place T
  refine T.F_Book_way.ok sc_Book_way (fun vs H Q E h => ?_) (fun cdv A outer st H vs Q E hr h => ?_)
  · obtain ⟨s, dx, d, room, half, k, l, t, S, rfl, _⟩ := h
    rfl
  · obtain ⟨s, dx, d, room, half, k, l, t, S, rfl, hs, hd, hL, hK, few, hl, kq⟩ := h
    refine ⟨_, PSs.nox (pss_cons (ps_set (i := 2) sc_Book_way.nd rfl (Or.inl rfl) (pe_lst (pa_cons (pe_fld (pv 0) rfl) pa_nil)))
 (pss_cons (ps_set (i := 3) sc_Book_way.nd rfl (Or.inl rfl) (pe_dget (hu_of hr) (pe_fld (pv 0) rfl) (pe_fld (pv 0) rfl) (fun _ _ => rfl)))
 (pss_cons (ps_while PassesOwn.never (pt_cmpR op_eq (pe_ix ix_tup (pv 3) pe_int (fun _ _ => rfl)) pe_str (nomark _))
 (pss_cons (ps_asg (pv 3) (pg_tup rfl (pgs_cons (pg_name (i := 4) sc_Book_way.nd rfl (Or.inl rfl)) (pgs_cons (pg_name (i := 5) sc_Book_way.nd rfl (Or.inl rfl)) (pgs_cons (pg_name (i := 6) sc_Book_way.nd rfl (Or.inl rfl)) pgs_nil)))))
 (pss_cons (ps_expr (pe_bm PySem.F.plainAttrs_list PySem.F.slot_list_append PySem.F.type_list_append mt_append (pv 2) (pa_cons (pe_ix ix_tup (pv 6) (pe_call G_kid_place (hr.mono (by first | decide | omega)) rfl T.g_kid_place T.F_kid_place.kp b_kid_place .nil pass0 (pa_cons (pv 5) (pa_cons (pv 1) pa_nil))) (fun _ _ => rfl)) pa_nil)))
 (pss_one (ps_set (i := 3) sc_Book_way.nd rfl (Or.inl rfl) (pe_dget (hu_of hr) (pe_fld (pv 0) rfl) (pe_ix ix_list (pv 2) (pe_un un_neg pe_int) (fun _ _ => rfl)) (fun _ _ => rfl)))))))
 (pss_one (ps_ret (pe_callTy call_tuple_of rfl T.n_tuple (by decide +kernel) (pa_cons (pv 2) pa_nil))))))), ?_⟩
    have lr : (bfs room (num l t) half d).lookup ("root" : Str) = some (.int (num l t)) := lk_miss (by decide +kernel) (lk_miss (by decide +kernel) (lk_hit _ _ _))
    have lp : (bfs room (num l t) half d).lookup ("pages" : Str) = some (.ref d) := lk_hit _ _ _
    refine ⟨_, rfl, s, _, dx, _, _, rfl, hs, T.cl_Book, T.na_Book_root, lr, by show 1 ≤ sizeLine; decide, fun n hn => ?_⟩
    have s1 : Same H (upd H n (.lst [.int (num l t)])) := same_new hn
    have hn1 : upd H n (.lst [.int (num l t)]) n = some (.lst [.int (num l t)]) := upd_same
    generalize upd H n (.lst [.int (num l t)]) = H1 at s1 hn1
    obtain ⟨g, hg⟩ := laid_some hL
    obtain ⟨v0, hv0, hp0⟩ := (hd.same s1).get hg
    refine ⟨_, rfl, s, _, dx, _, _, rfl, s1 _ _ hs, T.cl_Book, T.na_Book_pages, lp, _, rfl, s, _, dx, _, _, rfl, s1 _ _ hs, T.cl_Book, T.na_Book_root, lr, d, _, rfl, hv0, ?_⟩
    refine ⟨fun m σ H' => ∃ (v4 v5 v6 : Option V) (u : Tr m) (pre : List Int) (pv : V) (g : Pg), σ = [some (.ref s), some (.int k), some (.ref n), some pv, v4, v5, v6] ∧ Same H H' ∧ H' n = some (.lst ((pre ++ [num m u]).map V.int)) ∧
      lkp S (num m u) = some g ∧ PgAt H' pv g ∧ Laid S m u ∧ KeyOk m u ∧ (nums m u).length ≤ 1000 ∧ pre.length + m ≤ 100 ∧ wayOf l t k = pre ++ wayOf m u k, ⟨l, _, _, _, t, [], v0, g, rfl, s1, hn1, hg, hp0, hL, hK, few, by show 0 + l ≤ 100; omega, rfl⟩, ?_⟩
    rintro m σ H2 ⟨v4, v5, v6, u, pre, pv, g, rfl, s2, hn2, hg2, hp2, hL2, hK2, few2, hpre, hway⟩
    cases m with
    | zero =>
      obtain ⟨nx, hg3⟩ := hL2
      rw [hg3] at hg2
      cases hg2
      obtain ⟨t1, q, rfl, ht1, _⟩ := hp2
      refine ⟨_, rfl, t1, _, _, _, rfl, rfl, SqT.of ht1, rfl, rfl, _, rfl, iteF ?_⟩
      refine ⟨_, rfl, n, _, rfl, .inl ⟨SqL.of hn2, fun a ha => ?_⟩⟩
      refine kq _ a (s2.trans (same_new ha)) ?_
      rw [upd_same, hway]
      rfl
    | succ m =>
      obtain ⟨hg3, hkids⟩ := hL2
      rw [hg3] at hg2
      cases hg2
      obtain ⟨t1, q1, q2, rfl, ht1, hq1, hq2⟩ := hp2
      refine ⟨_, rfl, t1, _, _, _, rfl, rfl, SqT.of ht1, rfl, rfl, _, rfl, iteT ?_⟩
      refine ⟨_, fun σ' H' h => ⟨m, Nat.lt_succ_self m, h⟩, ?_⟩
      obtain ⟨x, hx, mx⟩ := place_lt hK2 k
      have kf := keys_few hK2 few2 rfl (HEq.refl u)
      refine ⟨_, rfl, t1, _, rfl, SqT.of ht1, rfl, _, _, rfl, _, _, rfl, _, _, rfl, rfl, ?_⟩
      refine ⟨_, rfl, .inl ⟨rfl, _, SqL.of hn2⟩, _, rfl, _, rfl, _, rfl, q1, u.keys, k, rfl, hq1, kf, fun H3 s3 => ?_⟩
      refine ⟨q2, _, _, _, rfl, rfl, (hq2.same s3).sq, at_of (j := placeOf u.keys k) (v := V.int (num m x)) (by rw [List.getElem?_map, List.getElem?_map, hx]; rfl) rfl, ?_⟩
      refine ⟨n, _, _, rfl, rfl, s3 _ _ hn2, ?_, ?_⟩
      · rw [List.length_map, List.length_append]
        exact Nat.lt_of_le_of_lt (by show _ + 1 ≤ 1000; omega) (by decide)
      have s4 : Same H (upd H3 n (.lst ((pre ++ [num (m + 1) u]).map V.int ++ [V.int (num m x)]))) := fun b o e => by
        rw [upd_ne (ne_of_none e hn)]
        exact s3 _ _ (s2 b o e)
      have hn4 : upd H3 n (.lst ((pre ++ [num (m + 1) u]).map V.int ++ [V.int (num m x)])) n = some (.lst (((pre ++ [num (m + 1) u]) ++ [num m x]).map V.int)) := by
        rw [upd_same, List.map_append (l₁ := pre ++ [num (m + 1) u])]
        rfl
      generalize upd H3 n (.lst ((pre ++ [num (m + 1) u]).map V.int ++ [V.int (num m x)])) = H4 at s4 hn4
      obtain ⟨g4, hg4⟩ := laid_some (hkids x mx)
      obtain ⟨v7, hv7, hp7⟩ := (hd.same s4).get hg4
      have hlast : atI (((pre ++ [num (m + 1) u]) ++ [num m x]).map V.int) (-1) = some (.int (num m x)) := at_last (n := pre.length + 1) (by simp) (by simp)
      refine ⟨_, rfl, s, _, dx, _, _, rfl, s4 _ _ hs, T.cl_Book, T.na_Book_pages, lp, _, rfl, 1, rfl, n, _, _, _, rfl, rfl, SqL.of hn4, hlast, d, _, rfl, hv7, ?_⟩
      refine ⟨_, _, _, x, pre ++ [num (m + 1) u], v7, g4, rfl, s4, hn4, hg4, hp7, hkids x mx, hK2.2.2.2 x mx, kid_few mx few2, by rw [List.length_append]; show _ + 1 + m ≤ 100; omega, ?_⟩
      rw [hway, List.append_assoc]
      show pre ++ (num (m + 1) u :: (match u.kids[placeOf u.keys k]? with
        | some u => wayOf m u k
        | none => [])) = _
      rw [hx]
      rfl
end
end K29

namespace K29
open PySem PySem.Spec PyProof.Rows L2 RZ HX TR
def lfs : (l : Nat) → Tr l → List (Tr 0)
  | 0, t => [t]
  | l + 1, t => t.kids.flatMap (lfs l)
theorem lfs_num : ∀ {l : Nat} {t : Tr l}, (lfs l t).map (num 0) = lvs l t
  | 0, _ => rfl
  | l + 1, t => by
    show (t.kids.flatMap (lfs l)).map (num 0) = t.kids.flatMap (lvs l)
    rw [List.map_flatMap]
    congr 1
    funext u
    exact lfs_num
theorem lfs_prs : ∀ {l : Nat} {t : Tr l}, (lfs l t).flatMap Tr.ps = prs l t
  | 0, t => by
    show [t].flatMap Tr.ps = t.ps
    simp
  | l + 1, t => by
    show (t.kids.flatMap (lfs l)).flatMap Tr.ps = t.kids.flatMap (prs l)
    rw [List.flatMap_assoc]
    congr 1
    funext u
    exact lfs_prs
theorem lfs_laid {S : List (Int × Pg)} : ∀ {l : Nat} {t : Tr l}, Laid S l t → ∀ u ∈ lfs l t, Laid S 0 u
  | 0, t, h, u, hu => by
    obtain rfl := List.mem_singleton.mp hu
    exact h
  | l + 1, t, h, u, hu => by
    obtain ⟨k, hk, hu⟩ := List.mem_flatMap.mp hu
    exact lfs_laid (h.2 k hk) u hu
theorem paired_app {α β : Type} {R : α → β → Prop} : ∀ {xs : List α} {ys : List β} {xs' : List α} {ys' : List β}, Paired R xs ys → Paired R xs' ys' → Paired R (xs ++ xs') (ys ++ ys')
  | _, _, _, _, .nil, h => h
  | _, _, _, _, .cons r rs, h => .cons r (paired_app rs h)
section
variable {P : Program} {w : World} {K : PySem.W.Frag} {mg : Str → Option Value} {base : Heap}
/-- a row of pairs just made: one knows that it has no dict -/
def PrF (H : Hp) (a : Addr) (ps : List (Int × Int)) : Prop := ∃ (o : Obj) (xs : List V), H a = some (.frz o (.tup xs)) ∧ o.dict = none ∧ Paired (PrAt H) xs ps
def sp_law_pairs_of : Sp := fun vs H Q _ => ∃ (v : V) (room l : Nat) (t : Tr l) (S : List (Int × Pg)), vs = [v] ∧ SndAt H v room l t S ∧ l < 6 ∧ (prs l t).length ≤ 100000 ∧
  ∀ (H' : Hp) (a : Addr), Same H H' → PrF H' a (prs l t) → Q (.ref a) H'
theorem ok_law_pairs_of (T : TX K mg) : FnOk P w K mg base CX0 8 (He.ga K "_law_pairs_of") T.fd_law_pairs_of ["tree"] sp_law_pairs_of := by
  have G_law_leaves : FnOk P w K mg base CX0 7 (He.ga K "_law_leaves") T.fd_law_leaves ["pages", "number"] (sp_law_leaves 6) := ok_law_leaves T 6
  have b_law_leaves := b_law_leaves T
  refine T.F_law_pairs_of.ok sc_law_pairs_of (fun vs H Q E h => ?_) (fun cdv A outer st H vs Q E hr h => ?_)
  · obtain ⟨v, room, l, t, S, rfl, _⟩ := h
    rfl
  · obtain ⟨v, room, l, t, S, rfl, ⟨h, a, b, o, xs, rfl, ha, hb, ho, hx⟩, hl, hmany, kq⟩ := h
    refine ⟨_, PSs.nox (pss_cons (ps_set (i := 1) sc_law_pairs_of.nd rfl (Or.inl rfl) (pe_callTy (RU.call_dictT rfl) rfl T.n_dict (by decide +kernel) (pa_cons (pe_ix ix_tup (pv 0) pe_int (fun _ _ => rfl)) pa_nil)))
 (pss_cons (ps_set (i := 2) sc_law_pairs_of.nd rfl (Or.inl rfl) (pe_lst pa_nil))
 (pss_cons (ps_for PassesOwn.never rfl (pi_list (pe_call G_law_leaves (hr.mono (by first | decide | omega)) rfl T.g_law_leaves T.F_law_leaves.kp b_law_leaves .nil pass0 (pa_cons (pv 1) (pa_cons (pe_ix ix_tup (pv 0) pe_int (fun _ _ => rfl)) pa_nil)))) (pg_name (i := 3) sc_law_pairs_of.nd rfl (Or.inl rfl))
 (pss_one (ps_expr (pe_bm PySem.F.plainAttrs_list PySem.F.slot_list_extend PySem.F.type_list_extend mt_extend (pv 2) (pa_cons (pe_callTy call_list_of rfl T.n_list (by decide +kernel) (pa_cons (pe_ix ix_tup (pe_dget (hu_of hr) (pv 1) (pv 3) (fun _ _ => rfl)) pe_int (fun _ _ => rfl)) pa_nil)) pa_nil)))))
 (pss_one (ps_ret (pe_callTy RU.call_tupF rfl T.n_tuple (by decide +kernel) (pa_cons (pv 2) pa_nil))))))), ?_⟩
    have ndS : (S.map (·.1)).Nodup := h.perm.nodup_iff.mpr h.nodup
    obtain ⟨ps, kvs, e, p1, p2, p3⟩ := num_pairs (K := K) hx
    subst e
    refine ⟨_, rfl, a, _, _, _, rfl, rfl, SqT.of ha, rfl, b, o, ps, kvs, rfl, hb, ho, p1, fun d hd0 => ?_⟩
    obtain ⟨s1, hd⟩ := pages_dict p2 p3 ndS hd0
    generalize upd H d (.dK (mergeK [] kvs)) = H1 at s1 hd
    refine ⟨Nat.zero_le _, fun f hf => ?_⟩
    have s2 : Same H1 (upd H1 f (.lst [])) := same_new hf
    have hf2 : upd H1 f (.lst []) f = some (.lst []) := upd_same
    generalize upd H1 f (.lst []) = H2 at s2 hf2
    have hll := lvs_len (l := l) (t := t)
    have few := h.few
    refine ⟨_, rfl, _, rfl, a, _, _, _, rfl, rfl, SqT.of ((s1.trans s2) _ _ ha), rfl, l, t, d, S, rfl, hl, hd.same s2, h.laid, by omega, fun H3 c s3 hc hc3 => ?_⟩
    have ncf : c ≠ f := fun e => by rw [e, hf2] at hc; cases hc
    refine ⟨c, rfl, ⟨_, SqL.of hc3⟩, ?_⟩
    have hf3 := s3 _ _ hf2
    rw [← lfs_num] at hc3
    refine for_list (xs := ((lfs l t).map (num 0)).map V.int) (fun i σ H' => ∃ v3, σ = [some (.ref a), some (.ref d), some (.ref f), v3] ∧ But f H3 H' ∧ ∃ xs, H' f = some (.lst xs) ∧ Paired (PrAt H') xs (((lfs l t).take i).flatMap Tr.ps))
      ⟨none, rfl, But.refl f H3, [], hf3, .nil⟩ (fun i σ H' _ z => ?_) ?_ ?_
    · obtain ⟨_, _, b', _⟩ := z
      exact SqL.of (b' _ _ ncf hc3)
    · rintro i x σ H4 hx4 ⟨v3, rfl, b4, xs4, hf4, hp4⟩
      obtain ⟨n, hn, rfl⟩ := map_at hx4
      obtain ⟨u, hu, rfl⟩ := map_at hn
      obtain ⟨nx, hk⟩ := lfs_laid h.laid u (List.mem_of_getElem? hu)
      have hd4 : DctAt H4 d S := by
        obtain ⟨es, h1, h2⟩ := (hd.same s2).same s3
        have k34 : Keep H3 H4 := Keep.but b4 fun ys e => by rw [hf3] at e; cases e; rfl
        exact ⟨es, b4 _ _ (fun e => by rw [e, hf3] at h1; cases h1) h1, paired_imp (fun _ _ (r : EnAt H3 _ _) => (⟨r.1, r.2.keep k34⟩ : EnAt _ _ _)) h2⟩
      obtain ⟨v, hv, t1, q, rfl, ht1, ys, hq, hpy⟩ := hd4.get hk
      refine ⟨_, rfl, .inl ⟨rfl, _, SqL.of hf4⟩, ?_⟩
      refine ⟨_, rfl, _, rfl, d, _, rfl, hv, t1, _, _, _, rfl, rfl, SqT.of ht1, rfl, q, _, rfl, .inr hq.sq, fun g hg => ?_⟩
      have s5 : Same H4 (upd H4 g (.lst ys)) := same_new hg
      have hlen : (((lfs l t).take i).flatMap Tr.ps).length + u.ps.length ≤ 100000 := by
        have z := sum_part1 (fun u : Tr 0 => u.ps.length) hu
        have z2 := congrArg List.length (lfs_prs (l := l) (t := t))
        rw [List.length_flatMap] at z2 ⊢
        omega
      refine ⟨f, g, _, _, rfl, rfl, s5 _ _ hf4, upd_same, ?_, _, rfl, (b4.trans (But.of s5)).upd, _, upd_same, ?_⟩
      · rw [Paired.length hp4, Paired.length hpy]
        exact Nat.le_trans hlen (by decide)
      · have k5 : Keep H4 (upd (upd H4 g (.lst ys)) f (.lst (xs4 ++ ys))) := (Keep.of s5).trans ((Keep.refl _).upd fun zs e => by rw [s5 _ _ hf4] at e; cases e; rfl)
        rw [take_more hu, List.flatMap_append, List.flatMap_cons, List.flatMap_nil, List.append_nil]
        exact paired_app (paired_imp (fun _ _ r => PrAt.keep k5 r) hp4) (paired_imp (fun _ _ r => PrAt.keep k5 r) hpy)
    · rintro σ H4 ⟨v3, rfl, b4, xs4, hf4, hp4⟩
      rw [List.length_map, List.length_map, List.take_length, lfs_prs] at hp4
      refine ⟨_, rfl, f, _, rfl, SqL.of hf4, fun r ob hr hob => ?_⟩
      refine kq _ r (fun b o e => ?_) ⟨ob, _, upd_same, hob, paired_imp (fun _ _ r' => PrAt.keep (Keep.of (same_new hr)) r') hp4⟩
      have z1 := s1 b o e
      have z2 := s2 _ _ z1
      exact same_new hr _ _ (b4 _ _ (ne_of_none z1 hf) (s3 _ _ z2))
end
end K29

namespace K29
open PySem PySem.Spec PyProof.Rows L2 RZ HX TR RP
/-! ### a tree as data -/
def prD (p : Int × Int) : PyData := .tuple [.int p.1, .int p.2]
def pgD : Pg → PyData
  | .leaf ps nx => .tuple [.str "leaf", .tuple (ps.map prD), .int nx]
  | .node ks kids => .tuple [.str "node", .tuple (ks.map PyData.int), .tuple (kids.map PyData.int)]
def numD (q : Int × Pg) : PyData := .tuple [.int q.1, pgD q.2]
def treeD (room root : Int) (S : List (Int × Pg)) : PyData := .tuple [.int room, .int root, .tuple (S.map numD)]
section
variable {K : PySem.W.Frag} {H : Hp}
theorem pr_dp {x : V} {p : Int × Int} (h : PrAt H x p) : Dp K H x (prD p) := by
  obtain ⟨t, rfl, ht⟩ := h
  exact .tup (SqT.of ht) (.cons (.int _) (.cons (.int _) .nil))
theorem pg_dp {v : V} : ∀ {g : Pg}, PgAt H v g → Dp K H v (pgD g)
  | .leaf ps nx, ⟨t, q, e, h1, xs, h2, h3⟩ => by
    subst e
    exact .tup (SqT.of h1) (.cons (.str _) (.cons (.tup h2.sq (dpAll_of (fun _ _ r => pr_dp r) h3)) (.cons (.int _) .nil)))
  | .node ks kids, ⟨t, q1, q2, e, h1, h2, h3⟩ => by
    subst e
    exact .tup (SqT.of h1) (.cons (.str _) (.cons (.tup (SqT.of h2) (dpa_ints _)) (.cons (.tup h3.sq (dpa_ints _)) .nil)))
theorem tree_dp {v : V} {room root : Int} {S : List (Int × Pg)} (h : TreeAt H v room root S) : ∃ a, v = .ref a ∧ Dp K H v (treeD room root S) := by
  obtain ⟨a, b, o, xs, rfl, ha, hb, ho, hx⟩ := h
  refine ⟨a, rfl, .tup (SqT.of ha) (.cons (.int _) (.cons (.int _) (.cons (.tup (sqF hb) (dpAll_of (fun x q r => ?_) hx)) .nil)))⟩
  obtain ⟨t, w, rfl, ht, hg⟩ := r
  exact .tup (SqT.of ht) (.cons (.int _) (.cons (pg_dp hg) .nil))
end
theorem pr_nice {p : Int × Int} (h : GoodPr p) : Nice (prD p) 62 1 := by
  obtain ⟨h1, h2, h3, h4⟩ := h
  exact (NiceAll.cons (nice_int30 (by omega) (by omega)) (NiceAll.cons (nice_int30 (by omega) (by omega)) NiceAll.nil (Nat.zero_le 0)) (Nat.zero_le 0)).tup
theorem ints_nice {ks : List Int} (h : ∀ k ∈ ks, 0 ≤ k ∧ k ≤ 1000000000) (hl : ks.length ≤ 8) : Nice (.tuple (ks.map PyData.int)) 248 1 := by
  refine nice_tup (n := 30) (fun d hd => ?_) (by rw [List.length_map]; omega)
  obtain ⟨k, hk, rfl⟩ := List.mem_map.mp hd
  have := h k hk
  exact nice_int30 (by omega) (by omega)
theorem pg_nice : ∀ {g : Pg}, PgOk g → Pg.parts g ≤ 8 → Nice (pgD g) 541 3
  | .leaf ps nx, ⟨h1, h2, h3, h4, h5⟩, h => by
    have hp : ps.length ≤ 8 := h
    have a : Nice (.tuple (ps.map prD)) 504 2 := nice_tup (n := 62) (fun d hd => by
      obtain ⟨q, hq, rfl⟩ := List.mem_map.mp hd
      exact pr_nice (h1 q hq)) (by rw [List.length_map]; omega)
    exact (NiceAll.cons (k := 2) nice_leaf (NiceAll.cons a (NiceAll.cons (nice_int30 (by omega) (by omega)) NiceAll.nil (Nat.zero_le 2)) (Nat.le_refl 2)) (Nat.zero_le 2)).tup.le (by omega) (by omega)
  | .node ks kids, ⟨h1, h2, h3, h4, h5⟩, h => by
    have hp : kids.length ≤ 8 := h
    have a := ints_nice h2 (by omega)
    have b := ints_nice (fun k hk => ⟨by have := h3 k hk; omega, by have := h3 k hk; omega⟩) hp
    exact (NiceAll.cons (k := 2) nice_node (NiceAll.cons a (NiceAll.cons b NiceAll.nil (by omega)) (by omega)) (Nat.zero_le 2)).tup.le (by omega) (by omega)
theorem tree_few {room l : Nat} {t : Tr l} {S : List (Int × Pg)} (h : TR.Tree room l t S) : S.length ≤ 1000 := by
  have z := h.perm.length_eq
  rw [List.length_map] at z
  have := h.few
  omega
theorem tree_parts {room l : Nat} {t : Tr l} {S : List (Int × Pg)} (h : TR.Tree room l t S) : ∀ q ∈ S, Pg.parts q.2 ≤ room := fun q hq => by
  have m : q.1 ∈ nums l t := h.perm.mem_iff.mp (List.mem_map_of_mem hq)
  have ndS : (S.map (·.1)).Nodup := h.perm.nodup_iff.mpr h.nodup
  have e := mem_lkp ndS hq
  rcases fit_all h.laid h.wf q.1 m with z | ⟨g, e2, _, z⟩
  · obtain ⟨g, e2, _, z2, _⟩ := fit_root h.laid h.wf
    rw [← z, e] at e2
    cases e2
    exact z2
  · rw [e] at e2
    cases e2
    exact z
theorem tree_nice {room l : Nat} {t : Tr l} {S : List (Int × Pg)} (h : TR.Tree room l t S) : Nice (treeD room (num l t) S) 600000 6 := by
  have h3 := h.r3
  have h8 := h.r8
  have hn := h.range (num l t) (by cases l with | zero => exact List.mem_singleton.mpr rfl | succ l => exact List.mem_cons_self ..)
  have a : Nice (.tuple (S.map numD)) 574000 5 := nice_tup (n := 573) (fun d hd => by
    obtain ⟨q, hq, rfl⟩ := List.mem_map.mp hd
    obtain ⟨g1, g2, g3⟩ := K29.Tree.pgOk h q hq
    have p8 := tree_parts h q hq
    exact (NiceAll.cons (k := 3) (nice_int30 (by omega) (by omega)) (NiceAll.cons (pg_nice g3 (by omega)) NiceAll.nil (Nat.le_refl 3)) (Nat.zero_le 3)).tup) (by rw [List.length_map]; have := tree_few h; omega)
  exact (NiceAll.cons (k := 5) (nice_int30 (by omega) (by omega)) (NiceAll.cons (nice_int30 (by omega) (by omega)) (NiceAll.cons a NiceAll.nil (Nat.le_refl 5)) (Nat.zero_le 5)) (Nat.zero_le 5)).tup.le (by omega) (by omega)
/-- how many pairs -/
theorem lfs_few {room : Nat} : ∀ {l : Nat} {top : Bool} {t : Tr l}, WfSh room l top (shp l t) → ∀ u ∈ lfs l t, u.ps.length ≤ room
  | 0, _, t, h, u, hu => by
    obtain rfl := List.mem_singleton.mp hu
    exact h.2
  | l + 1, _, t, h, u, hu => by
    obtain ⟨s, hs, hu⟩ := List.mem_flatMap.mp hu
    exact lfs_few (h.2.2 _ (List.mem_map_of_mem hs)) u hu
theorem prs_few {room l : Nat} {t : Tr l} {S : List (Int × Pg)} (h : TR.Tree room l t S) : (prs l t).length ≤ 8000 := by
  have h8 := h.r8
  have few := h.few
  have ll := lvs_len (l := l) (t := t)
  have e := congrArg List.length (lfs_prs (l := l) (t := t))
  rw [List.length_flatMap] at e
  have s := sum_le (f := fun u : Tr 0 => u.ps.length) (c := 8) (xs := lfs l t) fun u hu => Nat.le_trans (lfs_few h.wf u hu) h8
  have e2 : (lfs l t).length = (lvs l t).length := by rw [← lfs_num, List.length_map]
  rw [← e]
  refine Nat.le_trans s ?_
  omega
end K29

namespace K29
open PySem PySem.Spec PyProof.Rows L2 RZ HX TR
/-- data that _law_same looks at, of that depth -/
def SameD : Nat → PyData → Prop
  | _ + 1, .none => True
  | _ + 1, .bool _ => True
  | _ + 1, .int _ => True
  | _ + 1, .str _ => True
  | N + 1, .tuple ds => ds.length ≤ 100000 ∧ ∀ d ∈ ds, SameD N d
  | _, _ => False
theorem SameD.tup {N : Nat} {ds : List PyData} (hl : ds.length ≤ 100000) (h : ∀ d ∈ ds, SameD N d) : SameD (N + 1) (.tuple ds) := ⟨hl, h⟩
theorem SameD.int {N : Nat} {i : Int} : SameD (N + 1) (.int i) := True.intro
theorem SameD.str {N : Nat} {i : Str} : SameD (N + 1) (.str i) := True.intro
theorem SameD.none {N : Nat} : SameD (N + 1) .none := True.intro
theorem tyT {K : PySem.W.Frag} {H : Hp} {a : Addr} {xs : List V} (h : SqT K H a xs) : TyX K H (.ref a) (.type "tuple") := by
  rcases h with (h | ⟨o, h⟩) | ⟨o, its, n, h1, h2, _⟩
  · exact .base (.tup h)
  · exact .fTuple h
  · exact .kTuple h1 h2
theorem dpAll_len {K : PySem.W.Frag} {H : Hp} : ∀ {xs : List V} {ds : List PyData}, DpAll K H xs ds → xs.length = ds.length
  | _, _, .nil => rfl
  | _, _, .cons _ h => congrArg Nat.succ (dpAll_len h)
theorem dpAll_get {K : PySem.W.Frag} {H : Hp} : ∀ {xs : List V} {ds : List PyData}, DpAll K H xs ds → ∀ {i : Nat} {x : V}, xs[i]? = some x → ∃ d, ds[i]? = some d ∧ Dp K H x d
  | _, _, .nil, i, x, h => by simp at h
  | _, _, .cons r _, 0, x, h => by
    cases h
    exact ⟨_, rfl, r⟩
  | _, _, .cons _ rs, i + 1, x, h => dpAll_get rs (i := i) h
theorem sqT_same {K : PySem.W.Frag} {H H' : Hp} {a : Addr} {xs : List V} (s : Same H H') (h : SqT K H a xs) : SqT K H' a xs := by
  rcases h with (h | ⟨o, h⟩) | h
  · exact .inl (.inl (s _ _ h))
  · exact .inl (.inr ⟨o, s _ _ h⟩)
  · exact .inr h
theorem sqL_same {K : PySem.W.Frag} {H H' : Hp} {a : Addr} {xs : List V} (s : Same H H') (h : SqL K H a xs) : SqL K H' a xs := by
  rcases h with (h | ⟨o, h⟩) | h
  · exact .inl (.inl (s _ _ h))
  · exact .inl (.inr ⟨o, s _ _ h⟩)
  · exact .inr h
mutual
theorem dp_same {K : PySem.W.Frag} {H H' : Hp} (s : Same H H') : ∀ {d : PyData} {v : V}, Dp K H v d → Dp K H' v d
  | _, _, .non => .non
  | _, _, .bl b => .bl b
  | _, _, .int i => .int i
  | _, _, .str x => .str x
  | _, _, .lst h r => .lst (sqL_same s h) (dpAll_same s r)
  | _, _, .tup h r => .tup (sqT_same s h) (dpAll_same s r)
theorem dpAll_same {K : PySem.W.Frag} {H H' : Hp} (s : Same H H') : ∀ {ds : List PyData} {vs : List V}, DpAll K H vs ds → DpAll K H' vs ds
  | _, _, .nil => .nil
  | _, _, .cons h r => .cons (dp_same s h) (dpAll_same s r)
end
end K29

namespace K29
open PySem PySem.Spec PyProof.Rows L2 RZ HX TR
/-! ### where a key's pair stands -/
def leafOf : (l : Nat) → Tr l → Int → Option (Tr 0)
  | 0, t, _ => some t
  | l + 1, t, k => match t.kids[placeOf t.keys k]? with
    | some u => leafOf l u k
    | none => none
def lkpP (ps : List (Int × Int)) (k : Int) : Option Int := (ps.find? fun q => decide (q.1 = k)).map (·.2)
theorem lkpP_of {ps : List (Int × Int)} (nd : ps.Pairwise fun a b => a.1 < b.1) : ∀ {k v : Int}, (k, v) ∈ ps → lkpP ps k = some v := by
  intro k v h
  induction ps with
  | nil => cases h
  | cons a ps ih =>
    obtain ⟨h1, h2⟩ := List.pairwise_cons.mp nd
    unfold lkpP
    rw [List.find?_cons]
    rcases List.mem_cons.mp h with rfl | h
    · rw [decide_eq_true rfl]
      rfl
    · have := h1 _ h
      rw [decide_eq_false (fun e => by have e' : a.1 = k := e; simp only at this; omega)]
      exact ih h2 h
theorem lkpP_none {ps : List (Int × Int)} {k : Int} (h : ∀ q ∈ ps, q.1 ≠ k) : lkpP ps k = none := by
  unfold lkpP
  rw [List.find?_eq_none.mpr fun q hq => by simpa using h q hq]
  rfl
theorem lkpP_mem {ps : List (Int × Int)} {k v : Int} (h : lkpP ps k = some v) : (k, v) ∈ ps := by
  unfold lkpP at h
  cases c : ps.find? fun q => decide (q.1 = k) with
  | none => rw [c] at h; cases h
  | some q =>
    rw [c] at h
    cases h
    have e : q.1 = k := by have z := List.find?_some c; simpa using z
    rw [← e]
    exact List.mem_of_find?_eq_some c
theorem lkpP_ne {ps : List (Int × Int)} {k : Int} (h : lkpP ps k = none) : ∀ q ∈ ps, q.1 ≠ k := by
  unfold lkpP at h
  intro q hq e
  have z : (ps.find? fun q => decide (q.1 = k)) = none := by
    cases c : ps.find? fun q => decide (q.1 = k) with
    | none => rfl
    | some x => rw [c] at h; cases h
  have := List.find?_eq_none.mp z q hq
  simp [e] at this
theorem wayOf_last : ∀ {l : Nat} {t : Tr l} {k : Int} {u : Tr 0}, leafOf l t k = some u → (wayOf l t k).getLast? = some (num 0 u)
  | 0, t, k, u, h => by
    cases h
    rfl
  | l + 1, t, k, u, h => by
    unfold leafOf at h
    unfold wayOf
    cases c : t.kids[placeOf t.keys k]? with
    | none => rw [c] at h; cases h
    | some x =>
      rw [c] at h
      have ih := wayOf_last h
      show (num (l + 1) t :: wayOf l x k).getLast? = _
      obtain ⟨r, e⟩ := wayOf_cons (l := l) (t := x) (k := k)
      rw [e] at ih ⊢
      rw [List.getLast?_cons_cons]
      exact ih
theorem leafOf_some : ∀ {l : Nat} {t : Tr l} (k : Int), KeyOk l t → ∃ u, leafOf l t k = some u ∧ u ∈ lfs l t
  | 0, t, k, _ => ⟨t, rfl, List.mem_singleton.mpr rfl⟩
  | l + 1, t, k, h => by
    obtain ⟨x, hx, hm⟩ := place_lt h k
    obtain ⟨u, hu, hl⟩ := leafOf_some k (h.2.2.2 x hm)
    refine ⟨u, ?_, List.mem_flatMap.mpr ⟨x, hm, hl⟩⟩
    unfold leafOf
    rw [hx]
    exact hu
theorem cnt_prs : ∀ {l : Nat} {t : Tr l}, cntS l (shp l t) = (prs l t).length
  | 0, t => rfl
  | l + 1, t => by
    show ((t.kids.map (shp l)).map (cntS l)).sum = (t.kids.flatMap (prs l)).length
    rw [List.length_flatMap, List.map_map]
    congr 1
    exact List.map_congr_left fun u _ => cnt_prs
theorem keyB_head {room : Nat} (hr : 3 ≤ room) : ∀ {l : Nat} {t : Tr l} {lo hi : Int}, KeyB l t lo hi → WfSh room l false (shp l t) → ∃ q r, prs l t = q :: r ∧ lo ≤ q.1
  | 0, t, lo, hi, h, w => by
    have c := cnt_pos hr w
    rw [cnt_prs] at c
    have c' : 0 < t.ps.length := c
    cases e : t.ps with
    | nil => rw [e] at c'; exact absurd c' (Nat.lt_irrefl 0)
    | cons q r => exact ⟨q, r, e, (h q (by rw [e]; exact List.mem_cons_self ..)).1⟩
  | l + 1, t, lo, hi, h, w => by
    have hK : KBs (KeyB l) lo t.keys t.kids hi := h
    have hl := KBs.len hK
    cases e : t.kids with
    | nil => rw [e] at hl; cases hl
    | cons u us =>
      obtain ⟨a, b, ha, hb, hR⟩ := KBs.at hK (i := 0) (k := u) (by rw [e]; rfl)
      obtain rfl : lo = a := Option.some.inj ha
      obtain ⟨q, r, e2, h2⟩ := keyB_head hr hR (w.2.2 _ (by show shp l u ∈ t.kids.map (shp l); rw [e]; exact List.mem_cons_self ..))
      refine ⟨q, r ++ us.flatMap (prs l), ?_, h2⟩
      show t.kids.flatMap (prs l) = _
      rw [e, List.flatMap_cons, e2]
      rfl
theorem keyB_last {room : Nat} (hr : 3 ≤ room) : ∀ {l : Nat} {t : Tr l} {lo hi : Int}, KeyB l t lo hi → WfSh room l false (shp l t) → ∃ q r, prs l t = r ++ [q] ∧ q.1 < hi
  | 0, t, lo, hi, h, w => by
    have c := cnt_pos hr w
    rw [cnt_prs] at c
    have c' : t.ps ≠ [] := fun e => by
      have c2 : 0 < t.ps.length := c
      rw [e] at c2
      exact absurd c2 (Nat.lt_irrefl 0)
    refine ⟨t.ps.getLast c', t.ps.dropLast, (List.dropLast_concat_getLast c').symm, (h _ (List.getLast_mem c')).2⟩
  | l + 1, t, lo, hi, h, w => by
    have hK : KBs (KeyB l) lo t.keys t.kids hi := h
    have hl := KBs.len hK
    have ne : t.kids ≠ [] := fun e => by rw [e] at hl; cases hl
    have e := List.dropLast_concat_getLast ne
    generalize hu : t.kids.getLast ne = u at e
    have hm : u ∈ t.kids := by rw [← hu]; exact List.getLast_mem ne
    have hi' : t.kids[t.keys.length]? = some u := by
      have : t.keys.length = t.kids.length - 1 := by omega
      have e3 : t.kids.getLast? = some (t.kids.getLast ne) := by first | exact List.getLast?_eq_some_getLast ne | exact List.getLast?_eq_getLast ne | simp
      rw [this, ← List.getLast?_eq_getElem?, e3, hu]
    obtain ⟨a, b, ha, hb, hR⟩ := KBs.at hK hi'
    have eb : hi = b := by
      rw [List.getElem?_append_right (Nat.le_refl _), Nat.sub_self] at hb
      exact Option.some.inj hb
    subst eb
    obtain ⟨q, r, e2, h2⟩ := keyB_last hr hR (w.2.2 _ (List.mem_map_of_mem hm))
    refine ⟨q, t.kids.dropLast.flatMap (prs l) ++ r, ?_, h2⟩
    show t.kids.flatMap (prs l) = _
    rw [← e, List.flatMap_append, List.flatMap_cons, List.flatMap_nil, List.append_nil, e2, List.dropLast_concat, List.append_assoc]
theorem keyB_all {room : Nat} (hr : 3 ≤ room) {l : Nat} {t : Tr l} {lo hi : Int} (h : KeyB l t lo hi) (w : WfSh room l false (shp l t)) (s : (prs l t).Pairwise fun a b => a.1 < b.1) : All lo hi (prs l t) := by
  intro q hq
  obtain ⟨a, r, e1, h1⟩ := keyB_head hr h w
  obtain ⟨b, r', e2, h2⟩ := keyB_last hr h w
  constructor
  · rw [e1] at hq s
    rcases List.mem_cons.mp hq with rfl | hq
    · exact h1
    · have := (List.pairwise_cons.mp s).1 q hq
      omega
  · rw [e2] at hq s
    rcases List.mem_append.mp hq with hq | hq
    · have := (List.pairwise_append.mp s).2.2 q hq b (List.mem_singleton.mpr rfl)
      omega
    · obtain rfl := List.mem_singleton.mp hq
      exact h2
theorem place_at : ∀ {ks : List Int} {k : Int} {j : Nat}, ks.Pairwise (· < ·) → j ≤ ks.length → (∀ i x, i < j → ks[i]? = some x → x ≤ k) → (∀ x, ks[j]? = some x → k < x) → placeOf ks k = j
  | [], k, j, _, hj, _, _ => by
    have : j = 0 := by simpa using hj
    rw [this]
    rfl
  | a :: ks, k, 0, s, hj, _, h2 => by
    have ha := h2 a rfl
    unfold placeOf
    rw [List.filter_eq_nil_iff.mpr ?_]
    · rfl
    · intro x hx
      have : k < x := by
        rcases List.mem_cons.mp hx with rfl | hx
        · exact ha
        · have := (List.pairwise_cons.mp s).1 x hx
          omega
      simp only [decide_eq_true_eq]
      omega
  | a :: ks, k, j + 1, s, hj, h1, h2 => by
    have ha := h1 0 a (Nat.succ_pos _) rfl
    have ih := place_at (ks := ks) (k := k) (j := j) (List.pairwise_cons.mp s).2 (by rw [List.length_cons] at hj; omega) (fun i x hi e => h1 (i + 1) x (by omega) e) (fun x e => h2 x e)
    unfold placeOf at ih ⊢
    rw [List.filter_cons, if_pos (decide_eq_true ha), List.length_cons, ih]
theorem place_kid {ks : List Int} {lo hi k a b : Int} {j : Nat} (s : ks.Pairwise (· < ·)) (hj : j ≤ ks.length) (ha : (lo :: ks)[j]? = some a) (hb : (ks ++ [hi])[j]? = some b) (h1 : a ≤ k) (h2 : k < b) : placeOf ks k = j := by
  refine place_at s hj (fun i x hi' e => ?_) fun x e => ?_
  · cases j with
    | zero => omega
    | succ j =>
      have ea : ks[j]? = some a := ha
      by_cases c : i = j
      · rw [c, ea] at e
        cases e
        exact h1
      · have := List.pairwise_iff_getElem.mp s i j (List.getElem?_eq_some_iff.mp e).1 (List.getElem?_eq_some_iff.mp ea).1 (by omega)
        rw [(List.getElem?_eq_some_iff.mp e).2, (List.getElem?_eq_some_iff.mp ea).2] at this
        omega
  · have hlt := (List.getElem?_eq_some_iff.mp e).1
    rw [List.getElem?_append_left hlt, e] at hb
    cases hb
    exact h2
theorem sub_flat {α β : Type} {f : α → List β} : ∀ {us : List α} {u : α}, u ∈ us → (f u).Sublist (us.flatMap f)
  | a :: us, u, h => by
    rw [List.flatMap_cons]
    rcases List.mem_cons.mp h with rfl | h
    · exact List.sublist_append_left _ _
    · exact (sub_flat h).trans (List.sublist_append_right _ _)
/-- a pair stands in the leaf to which its key's way leads -/
theorem in_leaf {room : Nat} (hr : 3 ≤ room) : ∀ {l : Nat} {top : Bool} {t : Tr l} {lo hi : Int}, KeyB l t lo hi → WfSh room l top (shp l t) → KeyOk l t → (prs l t).Pairwise (fun a b => a.1 < b.1) → ∀ q ∈ prs l t, ∃ u, leafOf l t q.1 = some u ∧ q ∈ u.ps
  | 0, _, t, lo, hi, _, _, _, _, q, hq => ⟨t, rfl, hq⟩
  | l + 1, _, t, lo, hi, h, w, ok, s, q, hq => by
    have hK : KBs (KeyB l) lo t.keys t.kids hi := h
    obtain ⟨x, hx, hqx⟩ := List.mem_flatMap.mp hq
    obtain ⟨j, hj⟩ := List.getElem?_of_mem hx
    obtain ⟨a, b, ha, hb, hR⟩ := KBs.at hK hj
    have wx := w.2.2 _ (List.mem_map_of_mem hx)
    have s' : (t.kids.flatMap (prs l)).Pairwise (fun a b => a.1 < b.1) := s
    have sx := s'.sublist (sub_flat hx)
    have hal := keyB_all hr hR wx sx q hqx
    have hjl : j ≤ t.keys.length := by
      have := (List.getElem?_eq_some_iff.mp hj).1
      have := KBs.len hK
      omega
    have pl := place_kid ok.1 hjl ha hb hal.1 hal.2
    obtain ⟨u, hu, hqu⟩ := in_leaf hr hR wx (ok.2.2.2 x hx) sx q hqx
    refine ⟨u, ?_, hqu⟩
    unfold leafOf
    rw [pl, hj]
    exact hu
theorem lfs_ps_sub : ∀ {l : Nat} {t : Tr l} {u : Tr 0}, u ∈ lfs l t → u.ps.Sublist (prs l t) := fun {l t u} h => by
  rw [← lfs_prs]
  exact sub_flat h
theorem leaf_lkp {room l : Nat} {t : Tr l} {S : List (Int × Pg)} (h : TR.Tree room l t S) {k : Int} {u : Tr 0} (hu : leafOf l t k = some u) (hm : u ∈ lfs l t) : lkpP u.ps k = lkpP (prs l t) k := by
  have sub := lfs_ps_sub hm
  cases c : lkpP (prs l t) k with
  | none => exact lkpP_none fun q hq => lkpP_ne c q (sub.subset hq)
  | some v =>
    have m := lkpP_mem c
    obtain ⟨u', hu', hq⟩ := in_leaf h.r3 h.keyB h.wf h.keyOk h.rising _ m
    rw [hu] at hu'
    cases hu'
    exact lkpP_of (h.rising.sublist sub) hq
theorem at_getLast {α : Type} {xs : List α} {v : α} (h : xs.getLast? = some v) : atI xs (-1) = some v := by
  cases xs with
  | nil => cases h
  | cons a r =>
    refine at_last (n := r.length) rfl ?_
    rw [List.getLast?_eq_getElem?] at h
    exact h
theorem way_last {l : Nat} {t : Tr l} {k : Int} {u : Tr 0} (h : leafOf l t k = some u) : atI ((wayOf l t k).map V.int) (-1) = some (.int (num 0 u)) := by
  refine at_getLast ?_
  rw [List.getLast?_map, wayOf_last h]
  rfl
end K29

namespace K29
open PySem PySem.Spec PyProof.Rows L2 RZ HX TR RP
def ovV : Option Int → V
  | none => .non
  | some i => .int i
def ovD : Option Int → PyData
  | none => .none
  | some i => .int i
section
variable {P : Program} {w : World} {K : PySem.W.Frag} {mg : Str → Option Value} {base : Heap}
def sp_value_in : Sp := fun vs H Q _ => ∃ (q : Addr) (ps : List (Int × Int)) (k : Int), vs = [.ref q, .int k] ∧ PrT H q ps ∧ ∀ H', Same H H' → Q (ovV (lkpP ps k)) H'
theorem ok_value_in (T : TX K mg) : FnOk P w K mg base CX0 1 (He.ga K "value_in") T.fd_value_in ["pairs", "key"] sp_value_in := by
  refine T.F_value_in.ok sc_value_in (fun vs H Q E h => ?_) (fun cdv A outer st H vs Q E hr h => ?_)
  · obtain ⟨q, ps, k, rfl, _⟩ := h
    rfl
  · obtain ⟨q, ps, k, rfl, ⟨xs, hq, hx⟩, kq⟩ := h
    refine ⟨_, PSs.nox (pss_cons (ps_for PassesOwn.never rfl (pi_tup (pv 0)) (pg_tup rfl (pgs_cons (pg_name (i := 2) sc_value_in.nd rfl (Or.inl rfl)) (pgs_cons (pg_name (i := 3) sc_value_in.nd rfl (Or.inl rfl)) pgs_nil)))
 (pss_one (ps_if (pt_cmpR op_eq (pv 2) (pv 1) (nomark _))
 (pss_one (ps_ret (pv 3)))
 pss_nil)))
 (pss_one (ps_ret pe_non))), ?_⟩
    refine ⟨_, rfl, q, rfl, ⟨_, hq.sq⟩, ?_⟩
    refine for_tup (xs := xs) (fun i σ H' => ∃ v2 v3, σ = [some (.ref q), some (.int k), v2, v3] ∧ Same H H' ∧ lkpP ps k = lkpP (ps.drop i) k) ⟨_, _, rfl, Same.refl H, rfl⟩ (fun i σ H' _ z => ?_) ?_ ?_
    · obtain ⟨_, _, _, s, _⟩ := z
      exact (hq.same s).sq
    · rintro i x σ H1 hxi ⟨v2, v3, rfl, s1, e1⟩
      obtain ⟨p, hp, t, rfl, ht⟩ := pget1 hx hxi
      refine ⟨t, _, rfl, SqT.of (s1 _ _ ht), rfl, _, _, rfl, _, _, rfl, rfl, ?_⟩
      refine ⟨_, rfl, _, rfl, rfl, _, rfl, ?_⟩
      have e2 : ps.drop i = p :: ps.drop (i + 1) := by
        obtain ⟨h1, h2⟩ := List.getElem?_eq_some_iff.mp hp
        rw [← h2]
        exact List.drop_eq_getElem_cons h1
      by_cases c : p.1 = k
      · refine (congrArg (fun b => (if b = true then _ else _)) (decide_eq_true (by rw [c] : V.int p.1 = V.int k))).mpr (iteT ?_)
        have e3 : lkpP ps k = some p.2 := by
          rw [e1, e2]
          unfold lkpP
          rw [List.find?_cons, decide_eq_true c]
          rfl
        have z := kq H1 s1
        rw [e3] at z
        exact ⟨_, rfl, z⟩
      · refine (congrArg (fun b => (if b = true then _ else _)) (decide_eq_false (fun z => c (by injection z) : ¬ V.int p.1 = V.int k))).mpr (iteF ?_)
        refine ⟨_, _, rfl, s1, ?_⟩
        rw [e1, e2]
        unfold lkpP
        rw [List.find?_cons, decide_eq_false c]
    · rintro σ H1 ⟨v2, v3, rfl, s1, e1⟩
      have e3 : lkpP ps k = none := by
        rw [e1, hx.length, List.drop_length]
        rfl
      have z := kq H1 s1
      rw [e3] at z
      exact z
end
end K29

namespace K29
open PySem PySem.Spec PyProof.Rows L2 RZ HX TR RP
theorem perm_sorted {α : Type} {f : α → Int} : ∀ {l m : List α}, l.Perm m → l.Pairwise (fun a b => f a < f b) → m.Pairwise (fun a b => f a < f b) → l = m
  | [], m, p, _, _ => by rw [p.symm.eq_nil]
  | a :: l, [], p, _, _ => by cases p.eq_nil
  | a :: l, b :: m, p, h1, h2 => by
    obtain ⟨a1, a2⟩ := List.pairwise_cons.mp h1
    obtain ⟨b1, b2⟩ := List.pairwise_cons.mp h2
    have ha : a ∈ b :: m := p.subset (List.mem_cons_self ..)
    have hb : b ∈ a :: l := p.symm.subset (List.mem_cons_self ..)
    rcases List.mem_cons.mp ha with rfl | ha
    · rw [perm_sorted (p.cons_inv) a2 b2]
    · rcases List.mem_cons.mp hb with rfl | hb
      · rw [perm_sorted (p.cons_inv) a2 b2]
      · have := b1 _ ha
        have := a1 _ hb
        omega
theorem setp_keys {D : List (Int × Pg)} {k : Int} {g : Pg} : (setp D k g).map (·.1) = D.map (·.1) := by
  unfold setp
  rw [List.map_map]
  refine List.map_congr_left fun q _ => ?_
  show (if q.1 = k then (q.1, g) else q).1 = q.1
  split <;> rfl
theorem setp_sorted {D : List (Int × Pg)} {k : Int} {g : Pg} (h : D.Pairwise fun a b => a.1 < b.1) : (setp D k g).Pairwise fun a b => a.1 < b.1 := by
  have z : ((setp D k g).map (·.1)).Pairwise (· < ·) := by
    rw [setp_keys]
    exact List.pairwise_map.mpr h
  exact List.pairwise_map.mp z
/-- the pairs of a leaf behind a put -/
def insP (ps : List (Int × Int)) (k v : Int) : List (Int × Int) := ps.filter (fun q => decide (q.1 < k)) ++ (k, v) :: ps.filter (fun q => decide (k < q.1))
def Bk (K : PySem.W.Frag) (H : Hp) (s dx : Addr) (room root half : Int) (d : Addr) : Prop := H s = some (.ins (He.ga K "Book") dx (bfs room root half d))
theorem bf_room {room root half : Int} {d : Addr} : (bfs room root half d).lookup ("room" : Str) = some (.int room) := lk_miss (by decide +kernel) (lk_miss (by decide +kernel) (lk_miss (by decide +kernel) (lk_hit _ _ _)))
theorem bf_root {room root half : Int} {d : Addr} : (bfs room root half d).lookup ("root" : Str) = some (.int root) := lk_miss (by decide +kernel) (lk_miss (by decide +kernel) (lk_hit _ _ _))
theorem bf_half {room root half : Int} {d : Addr} : (bfs room root half d).lookup ("half" : Str) = some (.int half) := lk_miss (by decide +kernel) (lk_hit _ _ _)
theorem bf_pages {room root half : Int} {d : Addr} : (bfs room root half d).lookup ("pages" : Str) = some (.ref d) := lk_hit _ _ _
section
variable {P : Program} {w : World} {K : PySem.W.Frag} {mg : Str → Option Value} {base : Heap}
def sp_need_value : Sp := fun vs H Q _ => ∃ k : Int, vs = [.int k] ∧ 0 ≤ k ∧ k ≤ 1000000000 ∧ Q .non H
def sp_many_parts (K : PySem.W.Frag) : Sp := fun vs H Q _ => ∃ (s dx d : Addr) (room root half n : Int) (D : List (Int × Pg)) (g : Pg), vs = [.ref s, .int n] ∧ Bk K H s dx room root half d ∧ DctAt H d D ∧ lkp D n = some g ∧ Q (.int (Pg.parts g : Nat)) H
theorem ok_many_parts (T : TX K mg) : FnOk P w K mg base CX0 2 (He.ma K (He.ga K "Book") "many_parts") T.fd_Book_many_parts ["self", "number"] (sp_many_parts K) := by
  have G_parts_of : FnOk P w K mg base CX0 1 (He.ga K "parts_of") T.fd_parts_of ["page"] (sp_parts_of K) := ok_parts_of T
  have b_parts_of := b_parts_of T
  refine T.F_Book_many_parts.ok sc_Book_many_parts (fun vs H Q E h => ?_) (fun cdv A outer st H vs Q E hr h => ?_)
  · obtain ⟨s, dx, d, room, root, half, n, D, g, rfl, _⟩ := h
    rfl
  · obtain ⟨s, dx, d, room, root, half, n, D, g, rfl, hs, hd, hg, kq⟩ := h
    refine ⟨_, PSs.nox (pss_one (ps_ret (pe_callB call_len_seq rfl T.n_len PySem.boot_len (pa_cons (pe_call G_parts_of (hr.mono (by first | decide | omega)) rfl T.g_parts_of T.F_parts_of.kp b_parts_of .nil pass0 (pa_cons (pe_dget (hu_of hr) (pe_fld (pv 0) rfl) (pv 1) (fun _ _ => rfl)) pa_nil)) pa_nil)))), ?_⟩
    obtain ⟨v, hv, hp⟩ := hd.get hg
    refine ⟨_, rfl, s, _, dx, _, _, rfl, hs, T.cl_Book, T.na_Book_pages, bf_pages, _, rfl, d, _, rfl, hv, v, g, rfl, hp, fun a xs ha hl => ?_⟩
    refine ⟨a, _, rfl, .inr ha, ?_⟩
    rw [hl]
    exact kq
def sp_Book_tree (K : PySem.W.Frag) : Sp := fun vs H Q _ => ∃ (s dx d : Addr) (room root half : Int) (D : List (Int × Pg)), vs = [.ref s] ∧ Bk K H s dx room root half d ∧ DctAt H d D ∧ ∀ (H' : Hp) (a : Addr) (S : List (Int × Pg)), Same H H' → TreeAt H' (.ref a) room root S → S.Perm D → S.Pairwise (fun a b => a.1 < b.1) → Q (.ref a) H'
theorem ok_Book_tree (T : TX K mg) : FnOk P w K mg base CX0 1 (He.ma K (He.ga K "Book") "tree") T.fd_Book_tree ["self"] (sp_Book_tree K) := by
  refine T.F_Book_tree.ok sc_Book_tree (fun vs H Q E h => ?_) (fun cdv A outer st H vs Q E hr h => ?_)
  · obtain ⟨s, dx, d, room, root, half, D, rfl, _⟩ := h
    rfl
  · obtain ⟨s, dx, d, room, root, half, D, rfl, hs, ⟨es, hd, hde⟩, kq⟩ := h
    refine ⟨_, PSs.nox (pss_one (ps_ret (pe_tup (pa_cons (pe_fld (pv 0) rfl) (pa_cons (pe_fld (pv 0) rfl) (pa_cons (pe_callTy RU.call_tupF rfl T.n_tuple (by decide +kernel) (pa_cons (pe_callB (HS.cr_sortedItK rfl) rfl T.n_sorted (by decide +kernel) (pa_cons (pe_bm0 PySem.F.plainAttrs_dict PySem.F.slot_dict_items PySem.F.type_dict_items HS.mt_itemsK (pe_fld (pv 0) rfl)) pa_nil)) pa_nil)) pa_nil)))))), ?_⟩
    obtain ⟨ks, rfl, hks⟩ := dct_keys hde
    refine ⟨_, rfl, s, _, dx, _, _, rfl, hs, T.cl_Book, T.na_Book_room, bf_room, _, rfl, s, _, dx, _, _, rfl, hs, T.cl_Book, T.na_Book_root, bf_root, _, rfl, s, _, dx, _, _, rfl, hs, T.cl_Book, T.na_Book_pages, bf_pages, .inr (.inr (.inl ⟨rfl, .inl ⟨_, hd⟩⟩)), d, _, rfl, rfl, hd, fun q hq => ?_⟩
    refine ⟨q, d, ks, rfl, upd_same, same_new hq _ _ hd, fun Hk z ps' sk hz hperm' hsort hzl hzt => ?_⟩
    refine ⟨z, _, rfl, SqL.of hzl, fun z2 o2 hz2 ho2 => ⟨by show 3 ≤ sizeLine; decide, fun r hr => ?_⟩⟩
    obtain ⟨S, hS, hSp⟩ := paired_perm hperm' hks
    have sgk : Same H Hk := fun b o e => sk b o (by rw [upd_ne (ne_of_none e hq)]; exact e)
    have skz : Same Hk (upd (upd Hk z2 (.frz o2 (.tup (ps'.map fun z => V.ref z.1)))) r (.tup [.int room, .int root, .ref z2])) := (same_new hz2).trans (same_new hr)
    have n2r : z2 ≠ r := ne_of_none (upd_same : upd Hk z2 (.frz o2 (.tup (ps'.map fun z => V.ref z.1))) z2 = _) hr
    have hz2' : upd (upd Hk z2 (.frz o2 (.tup (ps'.map fun z => V.ref z.1)))) r (.tup [.int room, .int root, .ref z2]) z2 = some (.frz o2 (.tup (ps'.map fun z => V.ref z.1))) := by rw [upd_ne n2r]; exact upd_same
    refine kq _ r S (sgk.trans skz) ⟨r, z2, o2, _, rfl, upd_same, hz2', ho2, num_paired (Keep.of (sgk.trans skz)) hSp fun z hz => skz _ _ (hzt z hz)⟩ hS ?_
    have z : (S.map (·.1)).Pairwise (· < ·) := by
      rw [← keys_eq hSp, List.map_map]
      exact List.pairwise_map.mpr ((List.pairwise_map (f := fun z : Addr × Int × Addr => z.2) (R := fun e f : Int × Addr => e.1 < f.1)).mp hsort)
    exact List.pairwise_map.mp z
end
theorem insP_len {ps : List (Int × Int)} {k v : Int} (h : ps.Pairwise fun a b => a.1 < b.1) : (insP ps k v).length = ps.length + (if lkpP ps k = none then 1 else 0) := by
  induction ps with
  | nil => rfl
  | cons a ps ih =>
    obtain ⟨h1, h2⟩ := List.pairwise_cons.mp h
    have ih := ih h2
    have ei : (insP ps k v).length = (ps.filter (fun q => decide (q.1 < k))).length + ((ps.filter (fun q => decide (k < q.1))).length + 1) := by
      unfold insP
      rw [List.length_append, List.length_cons]
    have ea : (insP (a :: ps) k v).length = ((a :: ps).filter (fun q => decide (q.1 < k))).length + (((a :: ps).filter (fun q => decide (k < q.1))).length + 1) := by
      unfold insP
      rw [List.length_append, List.length_cons]
    rw [ea, List.filter_cons, List.filter_cons]
    unfold lkpP at ih ⊢
    rw [List.find?_cons]
    by_cases c1 : a.1 < k
    · rw [if_pos (decide_eq_true c1), if_neg (by simp only [decide_eq_true_eq]; omega), decide_eq_false (by omega : ¬ a.1 = k), List.length_cons, List.length_cons]
      dsimp only
      rw [ei] at ih
      omega
    · by_cases c2 : a.1 = k
      · have e1 : ps.filter (fun q => decide (q.1 < k)) = [] := List.filter_eq_nil_iff.mpr fun q hq => by
          have := h1 q hq
          simp only [decide_eq_true_eq]
          omega
        have e2 : ps.filter (fun q => decide (k < q.1)) = ps := List.filter_eq_self.mpr fun q hq => by
          have := h1 q hq
          simp only [decide_eq_true_eq]
          omega
        rw [if_neg (by simp only [decide_eq_true_eq]; omega), if_neg (by simp only [decide_eq_true_eq]; omega), decide_eq_true c2, e1, e2, List.length_cons]
        show 0 + (ps.length + 1) = ps.length + 1 + (if (some a.2 : Option Int) = none then 1 else 0)
        rw [if_neg (by simp)]
        omega
      · rw [if_neg (by simp only [decide_eq_true_eq]; omega), if_pos (by simp only [decide_eq_true_eq]; omega), decide_eq_false c2, List.length_cons, List.length_cons]
        dsimp only
        rw [ei] at ih
        omega
end K29

namespace K29
open PySem PySem.Spec PyProof.Rows L2 RZ HX TR RP
/-! ### parting pages: plain mathematics -/
def IsFree (D : List (Int × Pg)) (n : Int) : Prop := 1 ≤ n ∧ lkp D n = none ∧ ∀ m, 1 ≤ m → m < n → lkp D m ≠ none
theorem free_uniq {D : List (Int × Pg)} {n m : Int} (a : IsFree D n) (b : IsFree D m) : n = m := by
  rcases Int.lt_trichotomy n m with h | h | h
  · exact (b.2.2 n a.1 h a.2.1).elim
  · exact h
  · exact (a.2.2 m b.1 h b.2.1).elim
open Classical in
noncomputable def freeN (D : List (Int × Pg)) : Int := if h : ∃ n, IsFree D n then h.choose else 0
theorem freeN_of {D : List (Int × Pg)} {n : Int} (h : IsFree D n) : freeN D = n := by
  have e : ∃ n, IsFree D n := ⟨n, h⟩
  unfold freeN
  rw [dif_pos e]
  exact free_uniq e.choose_spec h
def cutPg (cut : Nat) (new : Int) : Pg → Pg × Int × Pg
  | .leaf ps nx => (.leaf (ps.take cut) new, (ps.getD cut (0, 0)).1, .leaf (ps.drop cut) nx)
  | .node ks kids => (.node (ks.take (cut - 1)) (kids.take cut), ks.getD (cut - 1) 0, .node (ks.drop cut) (kids.drop cut))
def addK (n key new : Int) : Pg → Pg
  | .node ks kids => .node (ks.take (kids.idxOf n) ++ key :: ks.drop (kids.idxOf n)) (kids.take (kids.idxOf n + 1) ++ new :: kids.drop (kids.idxOf n + 1))
  | g => g
noncomputable def part1 (half : Nat) (D : List (Int × Pg)) (n : Int) (g : Pg) : List (Int × Pg) × Int × Int :=
  (setp D n (cutPg (Pg.parts g - half) (freeN D) g).1 ++ [(freeN D, (cutPg (Pg.parts g - half) (freeN D) g).2.2)], (cutPg (Pg.parts g - half) (freeN D) g).2.1, freeN D)
/-- from the lowest page up -/
noncomputable def upD (room half : Nat) : List (Int × Pg) → Int → List Int → List (Int × Pg) × Int
  | D, root, [] => (D, root)
  | D, root, [n] => match lkp D n with
    | none => (D, root)
    | some g => if Pg.parts g ≤ room then (D, root) else
      ((part1 half D n g).1 ++ [(freeN (part1 half D n g).1, .node [(part1 half D n g).2.1] [n, (part1 half D n g).2.2])], freeN (part1 half D n g).1)
  | D, root, n :: e :: rest => match lkp D n with
    | none => (D, root)
    | some g => if Pg.parts g ≤ room then (D, root) else
      match lkp (part1 half D n g).1 e with
      | none => (D, root)
      | some ge => upD room half (setp (part1 half D n g).1 e (addK n (part1 half D n g).2.1 (part1 half D n g).2.2 ge)) root (e :: rest)
/-- a page in itself: as many keys as it has to have, no more than a thousand parts -/
def PgW : Pg → Prop
  | .leaf ps _ => ps.length ≤ 1000
  | .node ks kids => ks.length + 1 = kids.length ∧ kids.length ≤ 1000
/-- the pages above n are nodes, each with the one below among its kids, none with too many parts -/
def Abv (room : Nat) (D : List (Int × Pg)) : Int → List Int → Prop
  | _, [] => True
  | n, e :: rest => (∃ ks kids, lkp D e = some (.node ks kids) ∧ ks.length + 1 = kids.length ∧ kids.length ≤ room ∧ n ∈ kids) ∧ Abv room D e rest
theorem lkp_app {D : List (Int × Pg)} {k k' : Int} {g : Pg} (h : lkp D k' ≠ none ∨ k' ≠ k) : lkp (D ++ [(k, g)]) k' = lkp D k' := by
  unfold lkp at h ⊢
  rw [List.find?_append]
  cases c : D.find? fun q => decide (q.1 = k') with
  | some q => rfl
  | none =>
    rw [c] at h
    rcases h with h | h
    · exact (h rfl).elim
    · rw [List.find?_cons, decide_eq_false (fun z => h z.symm)]
      rfl
theorem lkp_new {D : List (Int × Pg)} {k : Int} {g : Pg} (h : lkp D k = none) : lkp (D ++ [(k, g)]) k = some g := by
  unfold lkp at h ⊢
  rw [List.find?_append]
  cases c : D.find? fun q => decide (q.1 = k) with
  | some q => rw [c] at h; cases h
  | none =>
    rw [List.find?_cons, decide_eq_true rfl]
    rfl
theorem cut_to' {xs : List V} {n : Nat} : cutV xs none (some (n : Int)) = xs.take n := by
  unfold cutV
  rw [HT.sIx_nat, HT.sIx_none, Nat.sub_zero, List.drop_zero]
  by_cases h : n ≤ xs.length
  · rw [Nat.min_eq_left h]
  · rw [Nat.min_eq_right (by omega), List.take_length, List.take_of_length_le (by omega)]
def KeysLe (D : List (Int × Pg)) (B : Int) : Prop := ∀ q ∈ D, q.1 ≤ B
theorem KeysLe.free {D : List (Int × Pg)} {B n : Int} (h : KeysLe D B) (hn : n > B) : lkp D n = none := lkp_none fun q hq e => by
  have := h q hq
  omega
section
variable {P : Program} {w : World} {K : PySem.W.Frag} {mg : Str → Option Value} {base : Heap}
def sp_free (K : PySem.W.Frag) : Sp := fun vs H Q _ => ∃ (s dx d : Addr) (room root half : Int) (D : List (Int × Pg)), vs = [.ref s] ∧ Bk K H s dx room root half d ∧ DctAt H d D ∧ KeysLe D 2000000 ∧ ∀ n : Int, IsFree D n → n ≤ 2000001 → Q (.int n) H
theorem ok_free (T : TX K mg) : FnOk P w K mg base CX0 1 (He.ma K (He.ga K "Book") "free_number") T.fd_Book_free_number ["self"] (sp_free K) := by
  refine T.F_Book_free_number.ok sc_Book_free_number (fun vs H Q E h => ?_) (fun cdv A outer st H vs Q E hr h => ?_)
  · obtain ⟨s, dx, d, room, root, half, D, rfl, _⟩ := h
    rfl
  · obtain ⟨s, dx, d, room, root, half, D, rfl, hs, ⟨es, hd, hde⟩, hk, kq⟩ := h
    refine ⟨_, PSs.nox (pss_cons (ps_set (i := 1) sc_Book_free_number.nd rfl (Or.inl rfl) pe_int)
 (pss_cons (ps_while PassesOwn.never (pt_cmp (pc_din (hu_of hr) (pv 1) (pe_fld (pv 0) rfl)))
 (pss_one (ps_aug (i := 1) sc_Book_free_number.nd rfl (Or.inl rfl) pe_int ip_add)))
 (pss_one (ps_ret (pv 1))))), ?_⟩
    refine ⟨fun m σ H' => H' = H ∧ ∃ n : Int, σ = [some (.ref s), some (.int n)] ∧ 1 ≤ n ∧ n ≤ 2000001 ∧ (∀ k, 1 ≤ k → k < n → lkp D k ≠ none) ∧ m = (2000001 - n).toNat, ⟨_, rfl, 1, rfl, by decide, by decide, fun k a b => by omega, rfl⟩, ?_⟩
    rintro m σ H1 ⟨rfl, n, rfl, n1, n2, hall, rfl⟩
    refine ⟨_, rfl, _, rfl, s, _, dx, _, _, rfl, hs, T.cl_Book, T.na_Book_pages, bf_pages, d, _, rfl, DGet.k (k := .inl n) hd, _, rfl, ?_⟩
    rcases valV_of (k := n) hde with ⟨z, z2⟩ | ⟨g, v, z, z2, _⟩
    · rw [z2]
      refine iteF ?_
      exact ⟨_, rfl, kq n ⟨n1, z, hall⟩ n2⟩
    · rw [z2]
      have hle : n ≤ 2000000 := by
        have := hk _ (lkp_mem z)
        exact this
      refine iteT ⟨fun σ' H' => H' = H1 ∧ σ' = [some (.ref s), some (.int (n + 1))], fun σ' H' h => ⟨(2000001 - (n + 1)).toNat, by omega, h.1, n + 1, h.2, by omega, by omega, fun k a b => ?_, rfl⟩, ?_⟩
      · by_cases c : k = n
        · rw [c, z]
          exact nofun
        · exact hall k a (by omega)
      · exact ⟨_, rfl, _, _, rfl, rfl, rfl, rfl⟩
/-- where a page is cut -/
def CutOk (cut : Nat) : Pg → Prop
  | .leaf ps _ => 1 ≤ cut ∧ cut < ps.length
  | .node _ kids => 2 ≤ cut ∧ cut < kids.length
def sp_parted : Sp := fun vs H Q _ => ∃ (v : V) (g : Pg) (cut : Nat) (new : Int), vs = [v, .int (cut : Int), .int new] ∧ PgAt H v g ∧ PgW g ∧ CutOk cut g ∧
  ∀ (H' : Hp) (a : Addr) (x y : V), Same H H' → H' a = some (.tup [x, .int (cutPg cut new g).2.1, y]) → PgAt H' x (cutPg cut new g).1 → PgAt H' y (cutPg cut new g).2.2 → Q (.ref a) H'
theorem ok_parted (T : TX K mg) : FnOk P w K mg base CX0 1 (He.ga K "parted") T.fd_parted ["page", "cut", "right"] sp_parted := by
  refine T.F_parted.ok sc_parted (fun vs H Q E h => ?_) (fun cdv A outer st H vs Q E hr h => ?_)
  · obtain ⟨v, g, cut, new, rfl, _⟩ := h
    rfl
  · obtain ⟨v, g, cut, new, rfl, hv, hw, hc, kq⟩ := h
    refine ⟨_, PSs.nox (pss_cons (ps_if (pt_cmpR op_eq (pe_ix ix_tup (pv 0) pe_int (fun _ _ => rfl)) pe_str (nomark _))
 (pss_cons (ps_asg (pv 0) (pg_tup rfl (pgs_cons (pg_name (i := 3) sc_parted.nd rfl (Or.inl rfl)) (pgs_cons (pg_name (i := 4) sc_parted.nd rfl (Or.inl rfl)) (pgs_cons (pg_name (i := 5) sc_parted.nd rfl (Or.inl rfl)) pgs_nil)))))
 (pss_one (ps_ret (pe_tup (pa_cons (pe_tup (pa_cons pe_str (pa_cons (pe_slice RU.sl_tupF (pv 4) po_none (po_some (pv 1))) (pa_cons (pv 2) pa_nil)))) (pa_cons (pe_ix ix_tup (pe_ix ix_tup (pv 4) (pv 1) (fun _ _ => rfl)) pe_int (fun _ _ => rfl)) (pa_cons (pe_tup (pa_cons pe_str (pa_cons (pe_slice RU.sl_tupF (pv 4) (po_some (pv 1)) po_none) (pa_cons (pv 5) pa_nil)))) pa_nil)))))))
 pss_nil)
 (pss_cons (ps_asg (pv 0) (pg_tup rfl (pgs_cons (pg_name (i := 3) sc_parted.nd rfl (Or.inl rfl)) (pgs_cons (pg_name (i := 6) sc_parted.nd rfl (Or.inl rfl)) (pgs_cons (pg_name (i := 7) sc_parted.nd rfl (Or.inl rfl)) pgs_nil)))))
 (pss_one (ps_ret (pe_tup (pa_cons (pe_tup (pa_cons pe_str (pa_cons (pe_slice sl_tup (pv 6) po_none (po_some (pe_op op_sub (pv 1) pe_int))) (pa_cons (pe_slice RU.sl_tupF (pv 7) po_none (po_some (pv 1))) pa_nil)))) (pa_cons (pe_ix ix_tup (pv 6) (pe_op op_sub (pv 1) pe_int) (fun _ _ => rfl)) (pa_cons (pe_tup (pa_cons pe_str (pa_cons (pe_slice sl_tup (pv 6) (po_some (pv 1)) po_none) (pa_cons (pe_slice RU.sl_tupF (pv 7) (po_some (pv 1)) po_none) pa_nil)))) pa_nil)))))))), ?_⟩
    cases g with
    | leaf ps nx =>
      obtain ⟨t, q, rfl, ht, xs, hqf, hx⟩ := hv
      obtain ⟨c1, c2⟩ := hc
      have lx := hx.length
      have hw' : ps.length ≤ 1000 := hw
      refine ⟨_, rfl, t, _, _, _, rfl, rfl, SqT.of ht, rfl, rfl, _, rfl, iteT ?_⟩
      refine ⟨_, rfl, t, _, rfl, SqT.of ht, rfl, _, _, rfl, _, _, rfl, _, _, rfl, rfl, ?_⟩
      have nw1 : ¬ (HT.sIx xs.length 0 none = 0 ∧ HT.sIx xs.length xs.length (some (cut : Int)) = xs.length) := fun z => by
        have z2 := z.2
        rw [HT.sIx_nat] at z2
        omega
      have nw2 : ¬ (HT.sIx xs.length 0 (some (cut : Int)) = 0 ∧ HT.sIx xs.length xs.length none = xs.length) := fun z => by
        have z2 := z.1
        rw [HT.sIx_nat] at z2
        omega
      refine ⟨_, rfl, _, rfl, (cut : Int), rfl, q, xs, rfl, hqf.sq, nw1, fun p1 o1 hp1 ho1 => ⟨_, rfl, by show 3 ≤ sizeLine; decide, fun tl htl => ?_⟩⟩
      rw [cut_to'] at htl ⊢
      have s1 : Same H (upd (upd H p1 (.frz o1 (.tup (xs.take cut)))) tl (.tup [.str "leaf", .ref p1, .int new])) := (same_new hp1).trans (same_new htl)
      have hp11 : FzT (upd (upd H p1 (.frz o1 (.tup (xs.take cut)))) tl (.tup [.str "leaf", .ref p1, .int new])) p1 (xs.take cut) := ⟨o1, same_new htl _ _ upd_same, ho1⟩
      have htl1 : upd (upd H p1 (.frz o1 (.tup (xs.take cut)))) tl (.tup [.str "leaf", .ref p1, .int new]) tl = some (.tup [.str "leaf", .ref p1, .int new]) := upd_same
      generalize upd (upd H p1 (.frz o1 (.tup (xs.take cut)))) tl (.tup [.str "leaf", .ref p1, .int new]) = H1 at s1 hp11 htl1
      have hxc : xs[cut]? = some (xs[cut]'(by omega)) := List.getElem?_eq_getElem (by omega)
      obtain ⟨pq, hpq, tp, etp, htp⟩ := pget1 hx hxc
      refine ⟨_, rfl, _, rfl, q, _, _, .ref tp, rfl, rfl, (hqf.same s1).sq, at_of (j := cut) (by rw [hxc, etp]) rfl, tp, _, _, _, rfl, rfl, SqT.of (s1 _ _ htp), rfl, ?_⟩
      refine ⟨_, rfl, _, rfl, (cut : Int), rfl, q, xs, rfl, (hqf.same s1).sq, nw2, fun p2 o2 hp2 ho2 => ⟨_, rfl, by show 3 ≤ sizeLine; decide, fun tr htr => ?_⟩⟩
      rw [cut_from'] at htr ⊢
      have s2 : Same H1 (upd (upd H1 p2 (.frz o2 (.tup (xs.drop cut)))) tr (.tup [.str "leaf", .ref p2, .int nx])) := (same_new hp2).trans (same_new htr)
      have hp22 : FzT (upd (upd H1 p2 (.frz o2 (.tup (xs.drop cut)))) tr (.tup [.str "leaf", .ref p2, .int nx])) p2 (xs.drop cut) := ⟨o2, same_new htr _ _ upd_same, ho2⟩
      have htr2 : upd (upd H1 p2 (.frz o2 (.tup (xs.drop cut)))) tr (.tup [.str "leaf", .ref p2, .int nx]) tr = some (.tup [.str "leaf", .ref p2, .int nx]) := upd_same
      generalize upd (upd H1 p2 (.frz o2 (.tup (xs.drop cut)))) tr (.tup [.str "leaf", .ref p2, .int nx]) = H2 at s2 hp22 htr2
      refine ⟨by show 3 ≤ sizeLine; decide, fun a ha => ?_⟩
      have s3 : Same H2 (upd H2 a (.tup [.ref tl, .int pq.1, .ref tr])) := same_new ha
      have k3 := Keep.of ((s1.trans s2).trans s3)
      have eg : (ps.getD cut (0, 0)).1 = pq.1 := by rw [List.getD_eq_getElem?_getD, hpq]; rfl
      refine kq _ a (.ref tl) (.ref tr) ((s1.trans s2).trans s3) ?_ ⟨tl, p1, rfl, s3 _ _ (s2 _ _ htl1), _, (hp11.same s2).same s3, paired_take cut (paired_imp (fun _ _ r => PrAt.keep k3 r) hx)⟩ ⟨tr, p2, rfl, s3 _ _ htr2, _, hp22.same s3, paired_drop cut (paired_imp (fun _ _ r => PrAt.keep k3 r) hx)⟩
      rw [upd_same]
      show some (HO.tup [.ref tl, .int pq.1, .ref tr]) = some (.tup [.ref tl, .int (ps.getD cut (0, 0)).1, .ref tr])
      rw [eg]
    | node ks kids =>
      obtain ⟨t, q1, q2, rfl, ht, hq1, hq2⟩ := hv
      obtain ⟨c1, c2⟩ := hc
      obtain ⟨hw1, hw2⟩ := hw
      have ec : (cut : Int) - 1 = ((cut - 1 : Nat) : Int) := by omega
      have lk : (ks.map V.int).length = ks.length := List.length_map ..
      have lk2 : (kids.map V.int).length = kids.length := List.length_map ..
      have nwa : ∀ {xs : List V} {c : Nat}, c < xs.length → ¬ (HT.sIx xs.length 0 none = 0 ∧ HT.sIx xs.length xs.length (some (c : Int)) = xs.length) := fun hc z => by
        have z2 := z.2
        rw [HT.sIx_nat] at z2
        omega
      have nwb : ∀ {xs : List V} {c : Nat}, 1 ≤ c → 1 ≤ xs.length → ¬ (HT.sIx xs.length 0 (some (c : Int)) = 0 ∧ HT.sIx xs.length xs.length none = xs.length) := fun hc hx z => by
        have z2 := z.1
        rw [HT.sIx_nat] at z2
        omega
      refine ⟨_, rfl, t, _, _, _, rfl, rfl, SqT.of ht, rfl, rfl, _, rfl, iteF ?_⟩
      refine ⟨_, rfl, t, _, rfl, SqT.of ht, rfl, _, _, rfl, _, _, rfl, _, _, rfl, rfl, ?_⟩
      refine ⟨_, rfl, _, rfl, _, _, rfl, rfl, ((cut - 1 : Nat) : Int), (by show V.int ((cut : Int) - 1) = _; rw [ec]), q1, _, rfl, SqT.of hq1, nwa (by omega), fun p1 hp1 => ?_⟩
      rw [cut_to', ← List.map_take]
      have s1 := same_new (o := .tup ((ks.take (cut - 1)).map V.int)) hp1
      have h11 : upd H p1 (.tup ((ks.take (cut - 1)).map V.int)) p1 = some (.tup ((ks.take (cut - 1)).map V.int)) := upd_same
      generalize upd H p1 (.tup ((ks.take (cut - 1)).map V.int)) = H1 at s1 h11
      refine ⟨_, rfl, _, rfl, (cut : Int), rfl, q2, _, rfl, (hq2.same s1).sq, nwa (by omega), fun p2 o2 hp2 ho2 => ⟨by show 3 ≤ sizeLine; decide, fun tl htl => ?_⟩⟩
      rw [cut_to', ← List.map_take] at htl ⊢
      have s2 : Same H1 (upd (upd H1 p2 (.frz o2 (.tup ((kids.take cut).map V.int)))) tl (.tup [.str "node", .ref p1, .ref p2])) := (same_new hp2).trans (same_new htl)
      have h22 : upd (upd H1 p2 (.frz o2 (.tup ((kids.take cut).map V.int)))) tl (.tup [.str "node", .ref p1, .ref p2]) p2 = some (.frz o2 (.tup ((kids.take cut).map V.int))) := same_new htl _ _ upd_same
      have htl2 : upd (upd H1 p2 (.frz o2 (.tup ((kids.take cut).map V.int)))) tl (.tup [.str "node", .ref p1, .ref p2]) tl = some (.tup [.str "node", .ref p1, .ref p2]) := upd_same
      generalize upd (upd H1 p2 (.frz o2 (.tup ((kids.take cut).map V.int)))) tl (.tup [.str "node", .ref p1, .ref p2]) = H2 at s2 h22 htl2
      have s12 := s1.trans s2
      have hkc : ks[cut - 1]? = some (ks[cut - 1]'(by omega)) := List.getElem?_eq_getElem (by omega)
      refine ⟨_, rfl, _, rfl, _, _, rfl, rfl, q1, _, _, .int (ks[cut - 1]'(by omega)), rfl, rfl, SqT.of (s12 _ _ hq1), at_of (j := cut - 1) (by rw [List.getElem?_map, hkc]; rfl) ec, ?_⟩
      refine ⟨_, rfl, _, rfl, (cut : Int), rfl, q1, _, rfl, SqT.of (s12 _ _ hq1), nwb (by omega) (by omega), fun p3 hp3 => ?_⟩
      rw [cut_from', ← List.map_drop]
      have s3 := same_new (o := .tup ((ks.drop cut).map V.int)) hp3
      have h33 : upd H2 p3 (.tup ((ks.drop cut).map V.int)) p3 = some (.tup ((ks.drop cut).map V.int)) := upd_same
      generalize upd H2 p3 (.tup ((ks.drop cut).map V.int)) = H3 at s3 h33
      have s13 := s12.trans s3
      refine ⟨_, rfl, _, rfl, (cut : Int), rfl, q2, _, rfl, (hq2.same s13).sq, nwb (by omega) (by omega), fun p4 o4 hp4 ho4 => ⟨by show 3 ≤ sizeLine; decide, fun tr htr => ?_⟩⟩
      rw [cut_from', ← List.map_drop] at htr ⊢
      have s4 : Same H3 (upd (upd H3 p4 (.frz o4 (.tup ((kids.drop cut).map V.int)))) tr (.tup [.str "node", .ref p3, .ref p4])) := (same_new hp4).trans (same_new htr)
      have h44 : upd (upd H3 p4 (.frz o4 (.tup ((kids.drop cut).map V.int)))) tr (.tup [.str "node", .ref p3, .ref p4]) p4 = some (.frz o4 (.tup ((kids.drop cut).map V.int))) := same_new htr _ _ upd_same
      have htr4 : upd (upd H3 p4 (.frz o4 (.tup ((kids.drop cut).map V.int)))) tr (.tup [.str "node", .ref p3, .ref p4]) tr = some (.tup [.str "node", .ref p3, .ref p4]) := upd_same
      generalize upd (upd H3 p4 (.frz o4 (.tup ((kids.drop cut).map V.int)))) tr (.tup [.str "node", .ref p3, .ref p4]) = H4 at s4 h44 htr4
      refine ⟨by show 3 ≤ sizeLine; decide, fun a ha => ?_⟩
      have s5 : Same H4 (upd H4 a (.tup [.ref tl, .int (ks[cut - 1]'(by omega)), .ref tr])) := same_new ha
      have eg : ks.getD (cut - 1) 0 = ks[cut - 1]'(by omega) := by rw [List.getD_eq_getElem?_getD, hkc]; rfl
      have s25 := (s3.trans s4).trans s5
      refine kq _ a (.ref tl) (.ref tr) (s12.trans s25) ?_ ⟨tl, p1, p2, rfl, s25 _ _ htl2, s25 _ _ (s2 _ _ h11), o2, s25 _ _ h22, ho2⟩ ⟨tr, p3, p4, rfl, s5 _ _ htr4, s5 _ _ (s4 _ _ h33), o4, s5 _ _ h44, ho4⟩
      rw [upd_same]
      show some (HO.tup [.ref tl, .int (ks[cut - 1]'(by omega)), .ref tr]) = some (.tup [.ref tl, .int (ks.getD (cut - 1) 0), .ref tr])
      rw [eg]
def sp_part (K : PySem.W.Frag) : Sp := fun vs H Q _ => ∃ (s dx d : Addr) (room root n : Int) (half : Nat) (D : List (Int × Pg)) (g : Pg), vs = [.ref s, .int n] ∧ Bk K H s dx room root (half : Int) d ∧ DctAt H d D ∧ KeysLe D 2000000 ∧ D.length ≤ 100000 ∧ lkp D n = some g ∧ PgW g ∧ half ≤ Pg.parts g ∧ CutOk (Pg.parts g - half) g ∧
  ∀ (H' : Hp) (a : Addr), But d H H' → DctAt H' d (part1 half D n g).1 → H' a = some (.tup [.int (part1 half D n g).2.1, .int (part1 half D n g).2.2]) → IsFree D (part1 half D n g).2.2 → (part1 half D n g).2.2 ≤ 2000001 → Q (.ref a) H'
theorem ok_part (T : TX K mg) : FnOk P w K mg base CX0 3 (He.ga K "part") T.fd_part ["book", "number"] (sp_part K) := by
  have G_Book_many_parts : FnOk P w K mg base CX0 2 (He.ma K (He.ga K "Book") "many_parts") T.fd_Book_many_parts ["self", "number"] (sp_many_parts K) := ok_many_parts T
  have b_Book_many_parts := b_Book_many_parts T
  have G_Book_free_number : FnOk P w K mg base CX0 1 (He.ma K (He.ga K "Book") "free_number") T.fd_Book_free_number ["self"] (sp_free K) := ok_free T
  have b_Book_free_number := b_Book_free_number T
  have G_parted : FnOk P w K mg base CX0 1 (He.ga K "parted") T.fd_parted ["page", "cut", "right"] sp_parted := ok_parted T
  have b_parted := b_parted T
  refine T.F_part.ok sc_part (fun vs H Q E h => ?_) (fun cdv A outer st H vs Q E hr h => ?_)
  · obtain ⟨s, dx, d, room, root, n, half, D, g, rfl, _⟩ := h
    rfl
  · obtain ⟨s, dx, d, room, root, n, half, D, g, rfl, hs, hd, hk, hl, hg, hw, hh, hc, kq⟩ := h
    refine ⟨_, PSs.nox (pss_cons (ps_set (i := 2) sc_part.nd rfl (Or.inl rfl) (pe_dget (hu_of hr) (pe_fld (pv 0) rfl) (pv 1) (fun _ _ => rfl)))
 (pss_cons (ps_set (i := 3) sc_part.nd rfl (Or.inl rfl) (pe_meth0 (pv 0) T.cl_Book T.m_Book_free_number G_Book_free_number (hr.mono (by first | decide | omega)) b_Book_free_number .nil pass0))
 (pss_cons (ps_set (i := 4) sc_part.nd rfl (Or.inl rfl) (pe_op op_sub (pe_meth (pv 0) T.cl_Book T.m_Book_many_parts G_Book_many_parts (hr.mono (by first | decide | omega)) b_Book_many_parts .nil pass0 (pa_cons (pv 1) pa_nil)) (pe_fld (pv 0) rfl)))
 (pss_cons (ps_asg (pe_call G_parted (hr.mono (by first | decide | omega)) rfl T.g_parted T.F_parted.kp b_parted .nil pass0 (pa_cons (pv 2) (pa_cons (pv 4) (pa_cons (pv 3) pa_nil)))) (pg_tup rfl (pgs_cons (pg_name (i := 5) sc_part.nd rfl (Or.inl rfl)) (pgs_cons (pg_name (i := 6) sc_part.nd rfl (Or.inl rfl)) (pgs_cons (pg_name (i := 7) sc_part.nd rfl (Or.inl rfl)) pgs_nil)))))
 (pss_cons (ps_dput (hu_of hr) (pe_fld (pv 0) rfl) (pv 1) (pv 5) rfl)
 (pss_cons (ps_dput (hu_of hr) (pe_fld (pv 0) rfl) (pv 3) (pv 7) rfl)
 (pss_one (ps_ret (pe_tup (pa_cons (pv 6) (pa_cons (pv 3) pa_nil))))))))))), ?_⟩
    obtain ⟨v, hv, hp⟩ := hd.get hg
    refine ⟨_, rfl, s, _, dx, _, _, rfl, hs, T.cl_Book, T.na_Book_pages, bf_pages, _, rfl, d, _, rfl, hv, ?_⟩
    refine ⟨_, rfl, s, dx, _, rfl, hs, bfs_no (by decide +kernel) (by decide +kernel) (by decide +kernel) (by decide +kernel), s, dx, d, room, root, _, D, rfl, hs, hd, hk, fun new hfree hle => ?_⟩
    refine ⟨_, rfl, s, dx, _, rfl, hs, bfs_no (by decide +kernel) (by decide +kernel) (by decide +kernel) (by decide +kernel), _, rfl, s, dx, d, room, root, _, n, D, g, rfl, hs, hd, hg, ?_⟩
    refine ⟨_, rfl, s, _, dx, _, _, rfl, hs, T.cl_Book, T.na_Book_half, bf_half, _, _, rfl, rfl, ?_⟩
    have ecut : (Pg.parts g : Int) - (half : Int) = ((Pg.parts g - half : Nat) : Int) := by omega
    have en := freeN_of hfree
    refine ⟨_, rfl, _, rfl, _, rfl, v, g, Pg.parts g - half, new, (by rw [← ecut]; rfl), hp, hw, hc, fun H1 a x y s1 ha hx hy => ?_⟩
    refine ⟨a, _, rfl, SqT.of ha, rfl, _, _, rfl, _, _, rfl, _, _, rfl, rfl, ?_⟩
    obtain ⟨es, hd1, hde1⟩ := hd.same s1
    have hs1 := s1 _ _ hs
    have nl := hde1.length
    refine ⟨_, rfl, _, rfl, s, _, dx, _, _, rfl, hs1, T.cl_Book, T.na_Book_pages, bf_pages, _, rfl, d, _, rfl, DPut.k (k := .inl n) hd1 ?_, ?_⟩
    · exact Nat.lt_of_le_of_lt (by omega : es.length ≤ 100000) (by decide)
    have epk := putK_old (v := x) hde1 hg
    have k2 : Keep H1 (upd H1 d (.dK (putK es (.inl n) x))) := (Keep.refl H1).upd fun ys e => by rw [hd1] at e; cases e; rfl
    have b2 : But d H1 (upd H1 d (.dK (putK es (.inl n) x))) := (But.refl d H1).upd
    have hd2 : ∃ es2, upd H1 d (.dK (putK es (.inl n) x)) d = some (.dK es2) ∧ Paired (EnAt (upd H1 d (.dK (putK es (.inl n) x)))) es2 (setp D n (cutPg (Pg.parts g - half) new g).1) := by
      refine ⟨_, upd_same, ?_⟩
      refine (congrArg (fun z => Paired (EnAt (upd H1 d (.dK (putK es (.inl n) x)))) z (setp D n (cutPg (Pg.parts g - half) new g).1)) epk).mpr ?_
      exact DctAt.set (k := n) (hx.keep k2) (paired_imp (fun _ _ (r : EnAt H1 _ _) => (⟨r.1, r.2.keep k2⟩ : EnAt _ _ _)) hde1)
    have nds : s ≠ d := fun z => by rw [z, hd1] at hs1; cases hs1
    have hs2 := b2 _ _ nds hs1
    have hy2 := hy.keep k2
    generalize upd H1 d (.dK (putK es (.inl n) x)) = H2 at k2 b2 hd2 hs2 hy2
    obtain ⟨es2, hd2, hde2⟩ := hd2
    have nl2 := hde2.length
    have sl : (setp D n (cutPg (Pg.parts g - half) new g).1).length = D.length := by
      have z := congrArg List.length (setp_keys (D := D) (k := n) (g := (cutPg (Pg.parts g - half) new g).1))
      rw [List.length_map, List.length_map] at z
      exact z
    refine ⟨_, rfl, _, rfl, s, _, dx, _, _, rfl, hs2, T.cl_Book, T.na_Book_pages, bf_pages, _, rfl, d, _, rfl, DPut.k (k := .inl new) hd2 ?_, ?_⟩
    · exact Nat.lt_of_le_of_lt (by omega : es2.length ≤ 100000) (by decide)
    have k3 : Keep H2 (upd H2 d (.dK (putK es2 (.inl new) y))) := (Keep.refl H2).upd fun ys e => by rw [hd2] at e; cases e; rfl
    have b3 : But d H2 (upd H2 d (.dK (putK es2 (.inl new) y))) := (But.refl d H2).upd
    have nn : new ≠ n := fun z => by
      have := hfree.2.1
      rw [z, hg] at this
      cases this
    have hnone : lkp (setp D n (cutPg (Pg.parts g - half) new g).1) new = none := by
      rw [lkp_setp_ne nn]
      exact hfree.2.1
    have hd3 : DctAt (upd H2 d (.dK (putK es2 (.inl new) y))) d (setp D n (cutPg (Pg.parts g - half) new g).1 ++ [(new, (cutPg (Pg.parts g - half) new g).2.2)]) :=
      ⟨_, upd_same, DctAt.put (paired_imp (fun _ _ (r : EnAt H2 _ _) => (⟨r.1, r.2.keep k3⟩ : EnAt _ _ _)) hde2) hnone (hy2.keep k3)⟩
    generalize upd H2 d (.dK (putK es2 (.inl new) y)) = H3 at k3 b3 hd3
    have e1 : part1 half D n g = (setp D n (cutPg (Pg.parts g - half) new g).1 ++ [(new, (cutPg (Pg.parts g - half) new g).2.2)], (cutPg (Pg.parts g - half) new g).2.1, new) := by
      unfold part1
      rw [en]
    refine ⟨_, rfl, _, rfl, by show 2 ≤ sizeLine; decide, fun r hr => ?_⟩
    rw [e1] at kq
    exact kq _ r (((But.of s1).trans b2).trans (b3.trans (But.of (same_new hr)))) (hd3.same (same_new hr)) upd_same hfree hle
def sp_add_kid (K : PySem.W.Frag) : Sp := fun vs H Q _ => ∃ (s dx d : Addr) (room root half e n key new : Int) (D : List (Int × Pg)) (ks kids : List Int), vs = [.ref s, .int e, .int n, .int key, .int new] ∧ Bk K H s dx room root half d ∧ DctAt H d D ∧ D.length ≤ 100000 ∧ lkp D e = some (.node ks kids) ∧ n ∈ kids ∧ ks.length + 1 = kids.length ∧ kids.length ≤ 1000 ∧
  ∀ H' : Hp, But d H H' → DctAt H' d (setp D e (addK n key new (.node ks kids))) → Q .non H'
theorem ok_add_kid (T : TX K mg) : FnOk P w K mg base CX0 1 (He.ga K "add_kid") T.fd_add_kid ["book", "elder", "kid", "key", "new"] (sp_add_kid K) := by
  refine T.F_add_kid.ok sc_add_kid (fun vs H Q E h => ?_) (fun cdv A outer st H vs Q E hr h => ?_)
  · obtain ⟨s, dx, d, room, root, half, e, n, key, new, D, ks, kids, rfl, _⟩ := h
    rfl
  · obtain ⟨s, dx, d, room, root, half, e, n, key, new, D, ks, kids, rfl, hs, hd, hl, hg, hn, hw1, hw2, kq⟩ := h
    refine ⟨_, PSs.nox (pss_cons (ps_asg (pe_dget (hu_of hr) (pe_fld (pv 0) rfl) (pv 1) (fun _ _ => rfl)) (pg_tup rfl (pgs_cons (pg_name (i := 5) sc_add_kid.nd rfl (Or.inl rfl)) (pgs_cons (pg_name (i := 6) sc_add_kid.nd rfl (Or.inl rfl)) (pgs_cons (pg_name (i := 7) sc_add_kid.nd rfl (Or.inl rfl)) pgs_nil)))))
 (pss_cons (ps_set (i := 8) sc_add_kid.nd rfl (Or.inl rfl) (RU.pe_bmF PySem.F.slot_tuple_index PySem.F.type_tuple_index RU.mt_tindexI (pv 7) (pa_cons (pv 2) pa_nil)))
 (pss_one (ps_dput (hu_of hr) (pe_fld (pv 0) rfl) (pv 1) (pe_tup (pa_cons pe_str (pa_cons (pe_tup (StX.pa_star (pe_slice RU.sl_tupU (pv 6) po_none (po_some (pv 8))) (pa_cons (pv 3) (StX.pa_star (pe_slice RU.sl_tupU (pv 6) (po_some (pv 8)) po_none) pa_nil)))) (pa_cons (RU.pe_tupF (StX.pa_star (pe_slice RU.sl_tupU (pv 7) po_none (po_some (pe_op op_add (pv 8) pe_int))) (pa_cons (pv 4) (StX.pa_star (pe_slice RU.sl_tupU (pv 7) (po_some (pe_op op_add (pv 8) pe_int)) po_none) pa_nil)))) pa_nil)))) rfl)))), ?_⟩
    obtain ⟨v, hv, t, q1, q2, rfl, ht, hq1, hq2⟩ := hd.get hg
    refine ⟨_, rfl, s, _, dx, _, _, rfl, hs, T.cl_Book, T.na_Book_pages, bf_pages, _, rfl, d, _, rfl, hv, t, _, rfl, SqT.of ht, rfl, _, _, rfl, _, _, rfl, _, _, rfl, rfl, ?_⟩
    obtain ⟨o2, hq2f, ho2⟩ := id hq2
    refine ⟨_, rfl, ⟨q2, o2, _, rfl, hq2f, ho2⟩, _, rfl, q2, kids, n, rfl, rfl, hq2.sq, hn, ?_⟩
    have hix := List.idxOf_lt_length_of_mem hn
    have ea : ((kids.idxOf n : Nat) : Int) + 1 = ((kids.idxOf n + 1 : Nat) : Int) := by omega
    refine ⟨_, rfl, _, rfl, ((kids.idxOf n : Nat) : Int), rfl, q1, _, rfl, SqT.of hq1, fun p1 H1 s1 h1 => ?_⟩
    rw [cut_to', ← List.map_take] at h1
    refine ⟨p1, _, rfl, .inl h1, _, rfl, _, rfl, _, rfl, ((kids.idxOf n : Nat) : Int), rfl, q1, _, rfl, SqT.of (s1 _ _ hq1), fun p2 H2 s2 h2 => ?_⟩
    rw [cut_from', ← List.map_drop] at h2
    have il : kids.idxOf n ≤ ks.length := by omega
    have eK : (ks.take (kids.idxOf n)).map V.int ++ V.int key :: ((ks.drop (kids.idxOf n)).map V.int ++ []) = (ks.take (kids.idxOf n) ++ key :: ks.drop (kids.idxOf n)).map V.int := by
      rw [List.append_nil, List.map_append, List.map_cons]
    have lK : (ks.take (kids.idxOf n) ++ key :: ks.drop (kids.idxOf n)).length = ks.length + 1 := by
      rw [List.length_append, List.length_cons, List.length_take, List.length_drop]
      omega
    have eC : (kids.take (kids.idxOf n + 1)).map V.int ++ V.int new :: ((kids.drop (kids.idxOf n + 1)).map V.int ++ []) = (kids.take (kids.idxOf n + 1) ++ new :: kids.drop (kids.idxOf n + 1)).map V.int := by
      rw [List.append_nil, List.map_append, List.map_cons]
    have lC : (kids.take (kids.idxOf n + 1) ++ new :: kids.drop (kids.idxOf n + 1)).length = kids.length + 1 := by
      rw [List.length_append, List.length_cons, List.length_take, List.length_drop]
      omega
    refine ⟨p2, _, rfl, .inl h2, ?_, fun p3 hp3 => ?_⟩
    · rw [eK, List.length_map, lK]
      exact Nat.le_trans (by omega : _ ≤ 2000) (by decide)
    rw [eK]
    have s3 := same_new (o := .tup ((ks.take (kids.idxOf n) ++ key :: ks.drop (kids.idxOf n)).map V.int)) hp3
    have h3 : upd H2 p3 (.tup ((ks.take (kids.idxOf n) ++ key :: ks.drop (kids.idxOf n)).map V.int)) p3 = some (.tup ((ks.take (kids.idxOf n) ++ key :: ks.drop (kids.idxOf n)).map V.int)) := upd_same
    generalize upd H2 p3 (.tup ((ks.take (kids.idxOf n) ++ key :: ks.drop (kids.idxOf n)).map V.int)) = H3 at s3 h3
    have s13 := (s1.trans s2).trans s3
    refine ⟨_, rfl, _, rfl, _, _, rfl, rfl, ((kids.idxOf n + 1 : Nat) : Int), (by show V.int (((kids.idxOf n : Nat) : Int) + 1) = _; rw [ea]), q2, _, rfl, (hq2.same s13).sq, fun p4 H4 s4 h4 => ?_⟩
    rw [cut_to', ← List.map_take] at h4
    have s14 := s13.trans s4
    refine ⟨p4, _, rfl, .inl h4, _, rfl, _, rfl, _, rfl, _, _, rfl, rfl, ((kids.idxOf n + 1 : Nat) : Int), (by show V.int (((kids.idxOf n : Nat) : Int) + 1) = _; rw [ea]), q2, _, rfl, (hq2.same s14).sq, fun p5 H5 s5 h5 => ?_⟩
    rw [cut_from', ← List.map_drop] at h5
    refine ⟨p5, _, rfl, .inl h5, ?_, fun p6 o6 hp6 ho6 => ⟨by show 3 ≤ sizeLine; decide, fun r hr => ?_⟩⟩
    · rw [eC, List.length_map, lC]
      exact Nat.le_trans (by omega : _ ≤ 2000) (by decide)
    rw [eC] at hr ⊢
    have s6 : Same H5 (upd (upd H5 p6 (.frz o6 (.tup ((kids.take (kids.idxOf n + 1) ++ new :: kids.drop (kids.idxOf n + 1)).map V.int)))) r (.tup [.str "node", .ref p3, .ref p6])) := (same_new hp6).trans (same_new hr)
    have h66 : FzT (upd (upd H5 p6 (.frz o6 (.tup ((kids.take (kids.idxOf n + 1) ++ new :: kids.drop (kids.idxOf n + 1)).map V.int)))) r (.tup [.str "node", .ref p3, .ref p6])) p6 ((kids.take (kids.idxOf n + 1) ++ new :: kids.drop (kids.idxOf n + 1)).map V.int) := ⟨o6, same_new hr _ _ upd_same, ho6⟩
    have hr6 : upd (upd H5 p6 (.frz o6 (.tup ((kids.take (kids.idxOf n + 1) ++ new :: kids.drop (kids.idxOf n + 1)).map V.int)))) r (.tup [.str "node", .ref p3, .ref p6]) r = some (.tup [.str "node", .ref p3, .ref p6]) := upd_same
    generalize upd (upd H5 p6 (.frz o6 (.tup ((kids.take (kids.idxOf n + 1) ++ new :: kids.drop (kids.idxOf n + 1)).map V.int)))) r (.tup [.str "node", .ref p3, .ref p6]) = H6 at s6 h66 hr6
    have s36 := (s4.trans s5).trans s6
    have s16 := s13.trans s36
    obtain ⟨es, hd6, hde6⟩ := hd.same s16
    have nl := hde6.length
    have hs6 := s16 _ _ hs
    refine ⟨_, rfl, s, _, dx, _, _, rfl, hs6, T.cl_Book, T.na_Book_pages, bf_pages, _, rfl, d, _, rfl, DPut.k (k := .inl e) hd6 ?_, ?_⟩
    · exact Nat.lt_of_le_of_lt (by omega : es.length ≤ 100000) (by decide)
    have epk := putK_old (v := V.ref r) hde6 hg
    have k7 : Keep H6 (upd H6 d (.dK (putK es (.inl e) (.ref r)))) := (Keep.refl H6).upd fun ys e => by rw [hd6] at e; cases e; rfl
    have b7 : But d H6 (upd H6 d (.dK (putK es (.inl e) (.ref r)))) := (But.refl d H6).upd
    refine kq _ ((But.of s16).trans b7) ⟨_, upd_same, ?_⟩
    refine (congrArg (fun z => Paired (EnAt (upd H6 d (.dK (putK es (.inl e) (.ref r))))) z (setp D e (addK n key new (.node ks kids)))) epk).mpr ?_
    refine DctAt.set (k := e) ?_ (paired_imp (fun _ _ (r : EnAt H6 _ _) => (⟨r.1, r.2.keep k7⟩ : EnAt _ _ _)) hde6)
    exact ⟨r, p3, p6, rfl, k7 _ _ hr6, k7 _ _ (s36 _ _ h3), h66.keep k7⟩
end
end K29

namespace K29
open PySem PySem.Spec PyProof.Rows L2 RZ HX TR RP
theorem upD_stay {room half : Nat} {D : List (Int × Pg)} {root n : Int} {g : Pg} (hg : lkp D n = some g) (h : Pg.parts g ≤ room) : ∀ above, upD room half D root (n :: above) = (D, root)
  | [] => by simp [upD, hg, h]
  | e :: rest => by simp [upD, hg, h]
theorem upD_top {room half : Nat} {D : List (Int × Pg)} {root n : Int} {g : Pg} (hg : lkp D n = some g) (h : ¬ Pg.parts g ≤ room) : upD room half D root [n] =
    ((part1 half D n g).1 ++ [(freeN (part1 half D n g).1, .node [(part1 half D n g).2.1] [n, (part1 half D n g).2.2])], freeN (part1 half D n g).1) := by
  simp only [upD, hg, if_neg h]
theorem upD_up {room half : Nat} {D : List (Int × Pg)} {root n e : Int} {rest : List Int} {g ge : Pg} (hg : lkp D n = some g) (h : ¬ Pg.parts g ≤ room) (he : lkp (part1 half D n g).1 e = some ge) : upD room half D root (n :: e :: rest) =
    upD room half (setp (part1 half D n g).1 e (addK n (part1 half D n g).2.1 (part1 half D n g).2.2 ge)) root (e :: rest) := by
  simp only [upD, hg, if_neg h, he]
theorem Abv.congr {room : Nat} {D D' : List (Int × Pg)} : ∀ {n : Int} {L : List Int}, (∀ x ∈ L, lkp D' x = lkp D x) → Abv room D n L → Abv room D' n L
  | _, [], _, _ => True.intro
  | n, e :: rest, h, ⟨⟨ks, kids, h1, h2⟩, h3⟩ => ⟨⟨ks, kids, by rw [h e (List.mem_cons_self ..)]; exact h1, h2⟩, Abv.congr (fun x hx => h x (List.mem_cons_of_mem _ hx)) h3⟩
theorem Abv.there {room : Nat} {D : List (Int × Pg)} : ∀ {n : Int} {L : List Int}, Abv room D n L → ∀ x ∈ L, lkp D x ≠ none
  | _, [], _, x, hx => by cases hx
  | n, e :: rest, ⟨⟨ks, kids, h1, h2⟩, h3⟩, x, hx => by
    rcases List.mem_cons.mp hx with rfl | hx
    · rw [h1]
      exact nofun
    · exact Abv.there h3 x hx
theorem free_le {D : List (Int × Pg)} {B n : Int} (hB : 0 ≤ B) (h : KeysLe D B) (hf : IsFree D n) : n ≤ B + 1 := by
  by_cases c : n ≤ B + 1
  · exact c
  · exact (hf.2.2 (B + 1) (by omega) (by omega) (h.free (by omega))).elim
theorem part1_lkp {half : Nat} {D : List (Int × Pg)} {n x : Int} {g : Pg} (hx : lkp D x ≠ none) (hn : x ≠ n) : lkp (part1 half D n g).1 x = lkp D x := by
  unfold part1
  dsimp only
  rw [lkp_app (.inl (by rw [lkp_setp_ne hn]; exact hx)), lkp_setp_ne hn]
theorem part1_keys {half : Nat} {D : List (Int × Pg)} {n B : Int} {g : Pg} (hB : 0 ≤ B) (h : KeysLe D B) (hf : IsFree D (part1 half D n g).2.2) : KeysLe (part1 half D n g).1 (B + 1) := by
  intro q hq
  have hle := free_le hB h hf
  unfold part1 at hq hle
  dsimp only at hq hle
  rcases List.mem_append.mp hq with hq | hq
  · have : q.1 ∈ (setp D n (cutPg (Pg.parts g - half) (freeN D) g).1).map (·.1) := List.mem_map_of_mem hq
    rw [setp_keys] at this
    obtain ⟨q0, h0, e⟩ := List.mem_map.mp this
    have := h q0 h0
    have e' : q0.1 = q.1 := e
    omega
  · obtain rfl := List.mem_singleton.mp hq
    exact hle
theorem part1_len {half : Nat} {D : List (Int × Pg)} {n : Int} {g : Pg} : (part1 half D n g).1.length = D.length + 1 := by
  unfold part1
  dsimp only
  have z := congrArg List.length (setp_keys (D := D) (k := n) (g := (cutPg (Pg.parts g - half) (freeN D) g).1))
  rw [List.length_map, List.length_map] at z
  rw [List.length_append, z]
  rfl
theorem setp_keysLe {D : List (Int × Pg)} {k B : Int} {g : Pg} (h : KeysLe D B) : KeysLe (setp D k g) B := by
  intro q hq
  have : q.1 ∈ (setp D k g).map (·.1) := List.mem_map_of_mem hq
  rw [setp_keys] at this
  obtain ⟨q0, h0, e⟩ := List.mem_map.mp this
  have := h q0 h0
  have e' : q0.1 = q.1 := e
  omega
theorem setp_len {D : List (Int × Pg)} {k : Int} {g : Pg} : (setp D k g).length = D.length := by
  have z := congrArg List.length (setp_keys (D := D) (k := k) (g := g))
  rw [List.length_map, List.length_map] at z
  exact z
theorem cutOk_of {room : Nat} {g : Pg} (r3 : 3 ≤ room) (h1 : ¬ Pg.parts g ≤ room) (h2 : Pg.parts g ≤ room + 1) : (room + 1) / 2 ≤ Pg.parts g ∧ CutOk (Pg.parts g - (room + 1) / 2) g := by
  refine ⟨by omega, ?_⟩
  cases g with
  | leaf ps nx =>
    have a : Pg.parts (.leaf ps nx) = ps.length := rfl
    rw [a] at h1 h2 ⊢
    show 1 ≤ _ ∧ _ < ps.length
    omega
  | node ks kids =>
    have a : Pg.parts (.node ks kids) = kids.length := rfl
    rw [a] at h1 h2 ⊢
    show 2 ≤ _ ∧ _ < kids.length
    omega
theorem bf_put {room root half r : Int} {d : Addr} : putF "root" (.int r) (bfs room root half d) = bfs room r half d := rfl
/-- the state at the i-th page from below -/
structure UpAt (room : Nat) (D : List (Int × Pg)) (i : Nat) (L : List Int) : Prop where
  head : ∀ n above, L = n :: above → (∃ g, lkp D n = some g ∧ PgW g ∧ Pg.parts g ≤ room + 1) ∧ Abv room D n above ∧ (n :: above).Nodup
  keys : KeysLe D (1000000 + 2 * i)
  few : D.length ≤ 1000 + 2 * i
section
variable {P : Program} {w : World} {K : PySem.W.Frag} {mg : Str → Option Value} {base : Heap}
def sp_part_up (K : PySem.W.Frag) : Sp := fun vs H Q _ => ∃ (s dx d wy : Addr) (room : Nat) (root : Int) (ws : List Int) (D : List (Int × Pg)), vs = [.ref s, .ref wy] ∧ Bk K H s dx (room : Int) root (((room + 1) / 2 : Nat) : Int) d ∧ DctAt H d D ∧ H wy = some (.tup (ws.map V.int)) ∧ 3 ≤ room ∧ room ≤ 8 ∧ ws.length ≤ 1000 ∧ UpAt room D 0 ws.reverse ∧
  ∀ H' : Hp, (∀ b o, b ≠ d → b ≠ s → H b = some o → H' b = some o) → Bk K H' s dx (room : Int) (upD room ((room + 1) / 2) D root ws.reverse).2 (((room + 1) / 2 : Nat) : Int) d → DctAt H' d (upD room ((room + 1) / 2) D root ws.reverse).1 → Q .non H'
theorem ok_part_up (T : TX K mg) : FnOk P w K mg base CX0 4 (He.ga K "part_up") T.fd_part_up ["book", "way"] (sp_part_up K) := by
  have G_Book_many_parts : FnOk P w K mg base CX0 2 (He.ma K (He.ga K "Book") "many_parts") T.fd_Book_many_parts ["self", "number"] (sp_many_parts K) := ok_many_parts T
  have b_Book_many_parts := b_Book_many_parts T
  have G_Book_free_number : FnOk P w K mg base CX0 1 (He.ma K (He.ga K "Book") "free_number") T.fd_Book_free_number ["self"] (sp_free K) := ok_free T
  have b_Book_free_number := b_Book_free_number T
  have G_part : FnOk P w K mg base CX0 3 (He.ga K "part") T.fd_part ["book", "number"] (sp_part K) := ok_part T
  have b_part := b_part T
  have G_add_kid : FnOk P w K mg base CX0 1 (He.ga K "add_kid") T.fd_add_kid ["book", "elder", "kid", "key", "new"] (sp_add_kid K) := ok_add_kid T
  have b_add_kid := b_add_kid T
  refine T.F_part_up.ok sc_part_up (fun vs H Q E h => ?_) (fun cdv A outer st H vs Q E hr h => ?_)
  · obtain ⟨s, dx, d, wy, room, root, ws, D, rfl, _⟩ := h
    rfl
  · obtain ⟨s, dx, d, wy, room, root, ws, D, rfl, hs, hd, hw, r3, r8, few, hup, kq⟩ := h
    refine ⟨_, PSs.nox (pss_one (ps_for PassesOwn.never rfl (pi_range3 rfl T.n_range (pa_cons (pe_op op_sub (pe_callB call_len_seq rfl T.n_len PySem.boot_len (pa_cons (pv 1) pa_nil)) pe_int) (pa_cons (pe_un un_neg pe_int) (pa_cons (pe_un un_neg pe_int) pa_nil)))) (pg_name (i := 2) sc_part_up.nd rfl (Or.inl rfl))
 (pss_cons (ps_if (pt_cmpR op_le (pe_meth (pv 0) T.cl_Book T.m_Book_many_parts G_Book_many_parts (hr.mono (by first | decide | omega)) b_Book_many_parts .nil pass0 (pa_cons (pe_ix ix_tup (pv 1) (pv 2) (fun _ _ => rfl)) pa_nil)) (pe_fld (pv 0) rfl) (nomark _))
 (pss_one ps_retN)
 pss_nil)
 (pss_cons (ps_asg (pe_call G_part (hr.mono (by first | decide | omega)) rfl T.g_part T.F_part.kp b_part .nil pass0 (pa_cons (pv 0) (pa_cons (pe_ix ix_tup (pv 1) (pv 2) (fun _ _ => rfl)) pa_nil))) (pg_tup rfl (pgs_cons (pg_name (i := 3) sc_part_up.nd rfl (Or.inl rfl)) (pgs_cons (pg_name (i := 4) sc_part_up.nd rfl (Or.inl rfl)) pgs_nil))))
 (pss_one (ps_if (pt_cmpR op_gt (pv 2) pe_int (nomark _))
 (pss_one (ps_expr (pe_call G_add_kid (hr.mono (by first | decide | omega)) rfl T.g_add_kid T.F_add_kid.kp b_add_kid .nil pass0 (pa_cons (pv 0) (pa_cons (pe_ix ix_tup (pv 1) (pe_op op_sub (pv 2) pe_int) (fun _ _ => rfl)) (pa_cons (pe_ix ix_tup (pv 1) (pv 2) (fun _ _ => rfl)) (pa_cons (pv 3) (pa_cons (pv 4) pa_nil))))))))
 (pss_cons (ps_set (i := 5) sc_part_up.nd rfl (Or.inl rfl) (pe_meth0 (pv 0) T.cl_Book T.m_Book_free_number G_Book_free_number (hr.mono (by first | decide | omega)) b_Book_free_number .nil pass0))
 (pss_cons (ps_dput (hu_of hr) (pe_fld (pv 0) rfl) (pv 5) (pe_tup (pa_cons pe_str (pa_cons (pe_tup (pa_cons (pv 3) pa_nil)) (pa_cons (RU.pe_tupF (pa_cons (pe_ix ix_tup (pv 1) pe_int (fun _ _ => rfl)) (pa_cons (pv 4) pa_nil))) pa_nil)))) rfl)
 (pss_one (ps_fld (pv 0) (pv 5) rfl)))))))))), ?_⟩
    have hwl : (((ws.map V.int).length : Nat) : Int) = (ws.length : Int) := by rw [List.length_map]
    have nsd : s ≠ d := fun z => by
      obtain ⟨es, h1, _⟩ := hd
      have := hs
      unfold Bk at this
      rw [z, h1] at this
      cases this
    have nwd : wy ≠ d := fun z => by
      obtain ⟨es, h1, _⟩ := hd
      rw [z, h1] at hw
      cases hw
    have nws : wy ≠ s := fun z => by
      have := hs
      unfold Bk at this
      rw [← z, hw] at this
      cases this
    refine ⟨_, rfl, wy, _, rfl, .inr (SqT.of hw), _, _, rfl, rfl, 1, rfl, 1, rfl, _, _, _, _, rfl, RgC.neg (by omega) (by omega) (by decide) (by decide), ?_⟩
    refine for_rangeC (fun i σ H' => ∃ v2 v3 v4 v5 D' root', σ = [some (.ref s), some (.ref wy), v2, v3, v4, v5] ∧ (∀ b o, b ≠ d → b ≠ s → H b = some o → H' b = some o) ∧ Bk K H' s dx (room : Int) root' (((room + 1) / 2 : Nat) : Int) d ∧ DctAt H' d D' ∧ UpAt room D' i (ws.reverse.drop i) ∧
      upD room ((room + 1) / 2) D root ws.reverse = upD room ((room + 1) / 2) D' root' (ws.reverse.drop i)) ⟨_, _, _, _, D, root, rfl, fun b o _ _ e => e, hs, hd, hup, rfl⟩ ?_ ?_
    · rintro i σ H1 hi ⟨v2, v3, v4, v5, D1, root1, rfl, f1, hs1, hd1, hu1, e1⟩
      have hil : i < ws.length := by
        rw [hwl] at hi
        omega
      have hw1 := f1 _ _ nwd nws hw
      have hrl : i < ws.reverse.length := by rw [List.length_reverse]; exact hil
      have edrop : ws.reverse.drop i = ws.reverse[i] :: ws.reverse.drop (i + 1) := List.drop_eq_getElem_cons hrl
      generalize hn0 : ws.reverse[i] = n at edrop
      have hn : ws[ws.length - 1 - i]? = some n := by
        have z : ws.reverse[i]? = some n := by rw [List.getElem?_eq_getElem hrl, hn0]
        rw [List.getElem?_reverse hil] at z
        exact z
      obtain ⟨⟨g, hg, hgw, hgp⟩, hab, hnd⟩ := hu1.head n _ edrop
      have hat : atI (ws.map V.int) (((ws.map V.int).length : Int) - 1 + (i : Nat) * -1) = some (.int n) := by
        refine at_of (j := ws.length - 1 - i) ?_ (by rw [List.length_map]; omega)
        rw [List.getElem?_map, hn]
        rfl
      refine ⟨_, rfl, s, dx, _, rfl, hs1, bfs_no (by decide +kernel) (by decide +kernel) (by decide +kernel) (by decide +kernel), ?_⟩
      refine ⟨_, rfl, _, rfl, wy, _, _, _, rfl, rfl, SqT.of hw1, hat, s, dx, d, _, root1, _, n, D1, g, rfl, hs1, hd1, hg, ?_⟩
      refine ⟨_, rfl, s, _, dx, _, _, rfl, hs1, T.cl_Book, T.na_Book_room, bf_room, _, _, rfl, rfl, _, rfl, ?_⟩
      by_cases hle : Pg.parts g ≤ room
      · refine (congrArg (fun b => (if b = true then _ else _)) (decide_eq_true (by omega : (Pg.parts g : Int) ≤ (room : Int)))).mpr (iteT ?_)
        rw [edrop, upD_stay hg hle] at e1
        rw [e1] at kq
        exact kq H1 f1 hs1 hd1
      refine (congrArg (fun b => (if b = true then _ else _)) (decide_eq_false (by omega : ¬ (Pg.parts g : Int) ≤ (room : Int)))).mpr (iteF ?_)
      obtain ⟨hc1, hc2⟩ := cutOk_of r3 hle hgp
      have hk1 : KeysLe D1 2000000 := fun q hq => by
        have := hu1.keys q hq
        omega
      have hl1 := hu1.few
      refine ⟨_, rfl, _, rfl, _, rfl, wy, _, _, _, rfl, rfl, SqT.of hw1, hat, s, dx, d, _, root1, n, (room + 1) / 2, D1, g, rfl, hs1, hd1, hk1, by omega, hg, hgw, hc1, hc2, fun H2 a b2 hd2 ha hfree hle2 => ?_⟩
      refine ⟨a, _, rfl, SqT.of ha, rfl, _, _, rfl, _, _, rfl, rfl, ?_⟩
      have hs2 : Bk K H2 s dx (room : Int) root1 (((room + 1) / 2 : Nat) : Int) d := b2 _ _ nsd hs1
      have hw2 := b2 _ _ nwd hw1
      have f2 : ∀ b o, b ≠ d → b ≠ s → H b = some o → H2 b = some o := fun b o n1 n2 z => b2 b o n1 (f1 b o n1 n2 z)
      have hkeys := part1_keys (by omega) hu1.keys hfree
      have hlen := part1_len (half := (room + 1) / 2) (D := D1) (n := n) (g := g)
      refine ⟨_, rfl, _, _, rfl, rfl, _, rfl, ?_⟩
      cases hL : ws.reverse.drop (i + 1) with
      | nil =>
        have hli : ws.length ≤ i + 1 := by
          have z := congrArg List.length hL
          rw [List.length_drop, List.length_reverse] at z
          have z' : ws.length - (i + 1) = 0 := z
          omega
        refine (congrArg (fun b => (if b = true then _ else _)) (decide_eq_false (by omega : ¬ (((ws.map V.int).length : Int) - 1 + (i : Nat) * -1 > 0)))).mpr (iteF ?_)
        refine ⟨_, rfl, s, dx, _, rfl, hs2, bfs_no (by decide +kernel) (by decide +kernel) (by decide +kernel) (by decide +kernel), s, dx, d, _, root1, _, _, rfl, hs2, hd2, fun q hq => by have := hkeys q hq; omega, fun nr hnr hnrle => ?_⟩
        have hw0 : atI (ws.map V.int) 0 = some (.int n) := by
          refine at_of (j := 0) ?_ rfl
          rw [List.getElem?_map, show (0 : Nat) = ws.length - 1 - i by omega, hn]
          rfl
        refine ⟨_, rfl, by show 1 ≤ sizeLine; decide, fun p1 hp1 => ?_⟩
        have s3 : Same H2 (upd H2 p1 (.tup [.int (part1 ((room + 1) / 2) D1 n g).2.1])) := same_new hp1
        have h3 : upd H2 p1 (.tup [.int (part1 ((room + 1) / 2) D1 n g).2.1]) p1 = some (.tup [.int (part1 ((room + 1) / 2) D1 n g).2.1]) := upd_same
        generalize upd H2 p1 (.tup [.int (part1 ((room + 1) / 2) D1 n g).2.1]) = H3 at s3 h3
        refine ⟨_, rfl, wy, _, _, _, rfl, rfl, SqT.of (s3 _ _ hw2), hw0, _, rfl, by show 2 ≤ sizeLine; decide, fun p2 o2 hp2 ho2 => ⟨by show 3 ≤ sizeLine; decide, fun r hr => ?_⟩⟩
        have s4 : Same H3 (upd (upd H3 p2 (.frz o2 (.tup [.int n, .int (part1 ((room + 1) / 2) D1 n g).2.2]))) r (.tup [.str "node", .ref p1, .ref p2])) := (same_new hp2).trans (same_new hr)
        have h4 : FzT (upd (upd H3 p2 (.frz o2 (.tup [.int n, .int (part1 ((room + 1) / 2) D1 n g).2.2]))) r (.tup [.str "node", .ref p1, .ref p2])) p2 [.int n, .int (part1 ((room + 1) / 2) D1 n g).2.2] := ⟨o2, same_new hr _ _ upd_same, ho2⟩
        have hr4 : upd (upd H3 p2 (.frz o2 (.tup [.int n, .int (part1 ((room + 1) / 2) D1 n g).2.2]))) r (.tup [.str "node", .ref p1, .ref p2]) r = some (.tup [.str "node", .ref p1, .ref p2]) := upd_same
        generalize upd (upd H3 p2 (.frz o2 (.tup [.int n, .int (part1 ((room + 1) / 2) D1 n g).2.2]))) r (.tup [.str "node", .ref p1, .ref p2]) = H4 at s4 h4 hr4
        have s24 := s3.trans s4
        obtain ⟨es, hd4, hde4⟩ := hd2.same s24
        have hs4 := s24 _ _ hs2
        have nl := hde4.length
        refine ⟨_, rfl, s, _, dx, _, _, rfl, hs4, T.cl_Book, T.na_Book_pages, bf_pages, _, rfl, d, _, rfl, DPut.k (k := .inl nr) hd4 ?_, ?_⟩
        · exact Nat.lt_of_le_of_lt (by omega : es.length ≤ 100000) (by decide)
        have k5 : Keep H4 (upd H4 d (.dK (putK es (.inl nr) (.ref r)))) := (Keep.refl H4).upd fun ys e => by rw [hd4] at e; cases e; rfl
        have b5 : But d H4 (upd H4 d (.dK (putK es (.inl nr) (.ref r)))) := (But.refl d H4).upd
        have hd5 : DctAt (upd H4 d (.dK (putK es (.inl nr) (.ref r)))) d ((part1 ((room + 1) / 2) D1 n g).1 ++ [(nr, .node [(part1 ((room + 1) / 2) D1 n g).2.1] [n, (part1 ((room + 1) / 2) D1 n g).2.2])]) :=
          ⟨_, upd_same, DctAt.put (paired_imp (fun _ _ (r : EnAt H4 _ _) => (⟨r.1, r.2.keep k5⟩ : EnAt _ _ _)) hde4) hnr.2.1 ⟨r, p1, p2, rfl, k5 _ _ hr4, k5 _ _ (s4 _ _ h3), h4.keep k5⟩⟩
        have hs5 := b5 _ _ nsd hs4
        generalize upd H4 d (.dK (putK es (.inl nr) (.ref r))) = H5 at k5 b5 hd5 hs5
        refine ⟨_, rfl, _, rfl, s, _, dx, _, rfl, hs5, T.cl_Book, T.na_Book_root, (by show 4 < 1000; decide), ?_⟩
        have enr := freeN_of hnr
        rw [edrop, hL, upD_top hg hle, enr] at e1
        have k6 : Keep H5 (upd H5 s (.ins (He.ga K "Book") dx (putF "root" (.int nr) (bfs (room : Int) root1 (((room + 1) / 2 : Nat) : Int) d)))) := (Keep.refl H5).upd fun ys e => by rw [hs5] at e; cases e; rfl
        refine ⟨_, _, _, _, (part1 ((room + 1) / 2) D1 n g).1 ++ [(nr, .node [(part1 ((room + 1) / 2) D1 n g).2.1] [n, (part1 ((room + 1) / 2) D1 n g).2.2])], nr, rfl, fun b o n1 n2 z => ?_, (upd_same : upd H5 s (.ins (He.ga K "Book") dx (putF "root" (.int nr) (bfs (room : Int) root1 (((room + 1) / 2 : Nat) : Int) d))) s = _), ?_, ⟨(fun n' above e => by cases e), ?_, ?_⟩, ?_⟩
        · rw [upd_ne n2]
          exact b5 _ _ n1 (s24 _ _ (f2 b o n1 n2 z))
        · obtain ⟨es5, h51, h52⟩ := hd5
          exact ⟨es5, by rw [upd_ne nsd.symm]; exact h51, paired_imp (fun _ _ (r : EnAt H5 _ _) => (⟨r.1, r.2.keep k6⟩ : EnAt _ _ _)) h52⟩
        · intro q hq
          rcases List.mem_append.mp hq with hq | hq
          · have := hkeys q hq
            omega
          · obtain rfl := List.mem_singleton.mp hq
            have := free_le (by omega) hkeys hnr
            show nr ≤ _
            omega
        · rw [List.length_append, hlen]
          show D1.length + 1 + 1 ≤ _
          omega
        · rw [e1]
          simp only [upD]
      | cons e rest =>
        rw [hL] at hab hnd
        obtain ⟨⟨ks, kids, he1, hkl, hkr, hnk⟩, hab2⟩ := hab
        have hli : i + 1 < ws.length := by
          have z := congrArg List.length hL
          rw [List.length_drop, List.length_reverse, List.length_cons] at z
          omega
        have hen : e ≠ n := fun z => (List.nodup_cons.mp hnd).1 (by rw [z]; exact List.mem_cons_self ..)
        have he : ws[ws.length - 1 - (i + 1)]? = some e := by
          have z : ws.reverse[i + 1]? = some e := by
            have z2 := congrArg (fun l => l[0]?) hL
            simpa using z2
          rw [List.getElem?_reverse hli] at z
          exact z
        have hat2 : atI (ws.map V.int) (((ws.map V.int).length : Int) - 1 + (i : Nat) * -1 - 1) = some (.int e) := by
          refine at_of (j := ws.length - 1 - (i + 1)) ?_ (by rw [List.length_map]; omega)
          rw [List.getElem?_map, he]
          rfl
        have he2 : lkp (part1 ((room + 1) / 2) D1 n g).1 e = some (.node ks kids) := by
          rw [part1_lkp (by rw [he1]; exact nofun) hen]
          exact he1
        refine (congrArg (fun b => (if b = true then _ else _)) (decide_eq_true (by omega : (((ws.map V.int).length : Int) - 1 + (i : Nat) * -1 > 0)))).mpr (iteT ?_)
        refine ⟨_, rfl, _, rfl, _, rfl, _, _, rfl, rfl, wy, _, _, _, rfl, rfl, SqT.of hw2, hat2, _, rfl, _, rfl, wy, _, _, _, rfl, rfl, SqT.of hw2, hat, _, rfl, _, rfl, s, dx, d, _, root1, _, e, n, _, _, _, ks, kids, rfl, hs2, hd2, by omega, he2, hnk, hkl, by omega, fun H3 b3 hd3 => ?_⟩
        have hix := List.idxOf_lt_length_of_mem hnk
        rw [edrop, hL, upD_up hg hle he2] at e1
        refine ⟨_, _, _, _, _, root1, rfl, fun b o n1 n2 z => b3 _ _ n1 (f2 b o n1 n2 z), b3 _ _ nsd hs2, hd3, ⟨fun n' above ez => ?_, ?_, ?_⟩, ?_⟩
        · cases ez
          refine ⟨⟨_, lkp_setp_eq he2, ?_, ?_⟩, hab2.congr fun x hx => ?_, (List.nodup_cons.mp hnd).2⟩
          · unfold addK PgW
            dsimp only
            rw [List.length_append, List.length_append, List.length_cons, List.length_cons, List.length_take, List.length_take, List.length_drop, List.length_drop]
            omega
          · unfold addK Pg.parts
            dsimp only
            rw [List.length_append, List.length_cons, List.length_take, List.length_drop]
            omega
          · have hxe : x ≠ e := fun z => (List.nodup_cons.mp (List.nodup_cons.mp hnd).2).1 (by rw [← z]; exact hx)
            have hxn : x ≠ n := fun z => (List.nodup_cons.mp hnd).1 (by rw [← z]; exact List.mem_cons_of_mem _ hx)
            rw [lkp_setp_ne hxe, part1_lkp (Abv.there hab2 x hx) hxn]
        · intro q hq
          have := setp_keysLe hkeys q hq
          omega
        · rw [setp_len, hlen]
          omega
        · exact e1
    · rintro σ H1 ⟨v2, v3, v4, v5, D1, root1, rfl, f1, hs1, hd1, hu1, e1⟩
      have ed : ws.reverse.drop (((ws.map V.int).length : Int) - 1 - -1).toNat = [] := List.drop_of_length_le (by rw [List.length_reverse, List.length_map]; omega)
      rw [ed] at e1
      have e2 : upD room ((room + 1) / 2) D1 root1 [] = (D1, root1) := by simp [upD]
      rw [e2] at e1
      rw [e1] at kq
      exact kq H1 f1 hs1 hd1
end
end K29

namespace K29
open PySem PySem.Spec PyProof.Rows L2 RZ HX TR RP
theorem Abv.snoc {room : Nat} {D : List (Int × Pg)} {m e : Int} (he : ∃ ks kids, lkp D e = some (.node ks kids) ∧ ks.length + 1 = kids.length ∧ kids.length ≤ room ∧ m ∈ kids) : ∀ {n : Int} {L : List Int}, Abv room D n L → (n :: L).getLast? = some m → Abv room D n (L ++ [e])
  | n, [], _, hl => by
    cases hl
    exact ⟨he, True.intro⟩
  | n, x :: L, ⟨h1, h2⟩, hl => ⟨h1, Abv.snoc he h2 (by rw [List.getLast?_cons_cons] at hl; exact hl)⟩
theorem way_sub : ∀ {l : Nat} {t : Tr l} {k : Int}, (wayOf l t k).Sublist (nums l t)
  | 0, t, k => List.Sublist.refl _
  | l + 1, t, k => by
    unfold wayOf
    show (num (l + 1) t :: _).Sublist (num (l + 1) t :: t.kids.flatMap (nums l))
    refine List.Sublist.cons₂ _ ?_
    cases c : t.kids[placeOf t.keys k]? with
    | none => exact List.nil_sublist _
    | some x => exact way_sub.trans (sub_flat (List.mem_of_getElem? c))
theorem way_above {room : Nat} {D : List (Int × Pg)} {k : Int} : ∀ {l : Nat} {top : Bool} {t : Tr l} {u : Tr 0}, Laid D l t → WfSh room l top (shp l t) → KeyOk l t → leafOf l t k = some u → ∃ above, (wayOf l t k).reverse = num 0 u :: above ∧ Abv room D (num 0 u) above ∧ (num 0 u :: above).getLast? = some (num l t)
  | 0, _, t, u, _, _, _, hu => by
    cases hu
    exact ⟨[], rfl, True.intro, rfl⟩
  | l + 1, _, t, u, hL, hW, hK, hu => by
    unfold leafOf at hu
    cases c : t.kids[placeOf t.keys k]? with
    | none => rw [c] at hu; cases hu
    | some x =>
      rw [c] at hu
      have hx := List.mem_of_getElem? c
      obtain ⟨above, h1, h2, h3⟩ := way_above (hL.2 x hx) (hW.2.2 _ (List.mem_map_of_mem hx)) (hK.2.2.2 x hx) hu
      refine ⟨above ++ [num (l + 1) t], ?_, Abv.snoc ⟨_, _, hL.1, by rw [List.length_map]; exact hK.2.2.1, ?_, List.mem_map_of_mem hx⟩ h2 h3, ?_⟩
      · have e : wayOf (l + 1) t k = num (l + 1) t :: wayOf l x k := by
          show num (l + 1) t :: (match t.kids[placeOf t.keys k]? with | some u => wayOf l u k | none => []) = _
          rw [c]
        rw [e, List.reverse_cons, h1]
        rfl
      · have w2 := hW.2.1
        have el : (shp (l + 1) t).ks.length = t.kids.length := List.length_map ..
        rw [List.length_map]
        omega
      · rw [← List.cons_append, List.getLast?_append]
        rfl
/-- what put makes of the pages -/
noncomputable def putD (room l : Nat) (t : Tr l) (S : List (Int × Pg)) (u : Tr 0) (nx key value : Int) : List (Int × Pg) × Int := upD room ((room + 1) / 2) (setp S (num 0 u) (.leaf (insP u.ps key value) nx)) (num l t) (wayOf l t key).reverse
theorem put_up {room l : Nat} {t : Tr l} {S : List (Int × Pg)} {u : Tr 0} {nx key value : Int} (h : TR.Tree room l t S) (hu : leafOf l t key = some u) (hm : u ∈ lfs l t) (hg : lkp S (num 0 u) = some (.leaf u.ps nx)) : UpAt room (setp S (num 0 u) (.leaf (insP u.ps key value) nx)) 0 (wayOf l t key).reverse := by
  obtain ⟨above, h1, h2, h3⟩ := way_above h.laid h.wf h.keyOk hu
  have hri : u.ps.Pairwise (fun a b => a.1 < b.1) := h.rising.sublist (lfs_ps_sub hm)
  have hul : u.ps.length ≤ room := lfs_few h.wf u hm
  have r8 := h.r8
  have hil := insP_len (k := key) (v := value) hri
  have hnd : (num 0 u :: above).Nodup := by
    rw [← h1]
    exact (List.reverse_perm _).nodup_iff.mpr (h.nodup.sublist way_sub)
  have hil2 : (insP u.ps key value).length ≤ room + 1 := by
    rw [hil]
    split <;> omega
  refine ⟨fun n ab e => ?_, fun q hq => ?_, ?_⟩
  · rw [h1] at e
    cases e
    refine ⟨⟨_, lkp_setp_eq hg, ?_, hil2⟩, h2.congr fun x hx => lkp_setp_ne fun z => (List.nodup_cons.mp hnd).1 (by rw [← z]; exact hx), hnd⟩
    show (insP u.ps key value).length ≤ 1000
    omega
  · have hk : KeysLe S 1000000 := fun q hq => (h.range q.1 (h.perm.mem_iff.mp (List.mem_map_of_mem hq))).2
    have := setp_keysLe hk q hq
    omega
  · rw [setp_len]
    have := tree_few h
    omega
section
variable {P : Program} {w : World} {K : PySem.W.Frag} {mg : Str → Option Value} {base : Heap}
def sp_put_in (K : PySem.W.Frag) : Sp := fun vs H Q _ => ∃ (s dx d : Addr) (room l : Nat) (key value : Int) (t : Tr l) (D : List (Int × Pg)) (u : Tr 0) (nx : Int), vs = [.ref s, .int key, .int value] ∧ Bk K H s dx (room : Int) (num l t) (((room + 1) / 2 : Nat) : Int) d ∧ DctAt H d D ∧ Laid D l t ∧ KeyOk l t ∧ (nums l t).length ≤ 1000 ∧ l ≤ 100 ∧ D.length ≤ 100000 ∧
  leafOf l t key = some u ∧ lkp D (num 0 u) = some (.leaf u.ps nx) ∧ u.ps.Pairwise (fun a b => a.1 < b.1) ∧ u.ps.length ≤ 1000 ∧ 3 ≤ room ∧ room ≤ 8 ∧ UpAt room (setp D (num 0 u) (.leaf (insP u.ps key value) nx)) 0 (wayOf l t key).reverse ∧
  ∀ H' : Hp, (∀ b o, b ≠ d → b ≠ s → H b = some o → H' b = some o) → Bk K H' s dx (room : Int) (putD room l t D u nx key value).2 (((room + 1) / 2 : Nat) : Int) d → DctAt H' d (putD room l t D u nx key value).1 → Q (ovV (lkpP u.ps key)) H'
theorem ok_put_in (T : TX K mg) : FnOk P w K mg base CX0 5 (He.ga K "put_in") T.fd_put_in ["book", "key", "value"] (sp_put_in K) := by
  have G_Book_way : FnOk P w K mg base CX0 2 (He.ma K (He.ga K "Book") "way") T.fd_Book_way ["self", "key"] (sp_Book_way K) := ok_Book_way T
  have b_Book_way := b_Book_way T
  have G_part_up : FnOk P w K mg base CX0 4 (He.ga K "part_up") T.fd_part_up ["book", "way"] (sp_part_up K) := ok_part_up T
  have b_part_up := b_part_up T
  have G_value_in : FnOk P w K mg base CX0 1 (He.ga K "value_in") T.fd_value_in ["pairs", "key"] sp_value_in := ok_value_in T
  have b_value_in := b_value_in T
  refine T.F_put_in.ok sc_put_in (fun vs H Q E h => ?_) (fun cdv A outer st H vs Q E hr h => ?_)
  · obtain ⟨s, dx, d, room, l, key, value, t, D, u, nx, rfl, _⟩ := h
    rfl
  · obtain ⟨s, dx, d, room, l, key, value, t, D, u, nx, rfl, hs, hd, hL, hK, few, hl, dfew, hu, hg, hri, hul, r3, r8, hup, kq⟩ := h
    refine ⟨_, PSs.nox (pss_cons (ps_set (i := 3) sc_put_in.nd rfl (Or.inl rfl) (pe_meth (pv 0) T.cl_Book T.m_Book_way G_Book_way (hr.mono (by first | decide | omega)) b_Book_way .nil pass0 (pa_cons (pv 1) pa_nil)))
 (pss_cons (ps_asg (pe_dget (hu_of hr) (pe_fld (pv 0) rfl) (pe_ix ix_tup (pv 3) (pe_un un_neg pe_int) (fun _ _ => rfl)) (fun _ _ => rfl)) (pg_tup rfl (pgs_cons (pg_name (i := 4) sc_put_in.nd rfl (Or.inl rfl)) (pgs_cons (pg_name (i := 5) sc_put_in.nd rfl (Or.inl rfl)) (pgs_cons (pg_name (i := 6) sc_put_in.nd rfl (Or.inl rfl)) pgs_nil)))))
 (pss_cons (ps_setLc (i := 7) (own := [("pair", 9)]) (g := gName 9) (tt := _) rfl sc_put_in.nd rfl rfl (sw_true rfl rfl rfl (by decide +kernel)) (pi_tup (pv 5)) (blkOk_by (own := [("pair", 9)]) (N := ["book", "key", "value", "way", "_", "pairs", "right", "ahead", "behind", "pair"]) (sc := defScope s_put_in) (by decide +kernel)) (fun _ _ _ _ _ => (pg_name (i := 9) sc_put_in.nd rfl (Or.inl rfl))) (fun _ _ _ _ _ => pts_one (pt_cmpR op_lt (pe_ix (ixt K) (pv 9) pe_int (fun _ _ => rfl)) (pv 1) (nomark _))) (fun _ _ _ _ _ => (pv 9)))
 (pss_cons (ps_setLc (i := 8) (own := [("pair", 9)]) (g := gName 9) (tt := _) rfl sc_put_in.nd rfl rfl (sw_true rfl rfl rfl (by decide +kernel)) (pi_tup (pv 5)) (blkOk_by (own := [("pair", 9)]) (N := ["book", "key", "value", "way", "_", "pairs", "right", "ahead", "behind", "pair"]) (sc := defScope s_put_in) (by decide +kernel)) (fun _ _ _ _ _ => (pg_name (i := 9) sc_put_in.nd rfl (Or.inl rfl))) (fun _ _ _ _ _ => pts_one (pt_cmpR op_gt (pe_ix (ixt K) (pv 9) pe_int (fun _ _ => rfl)) (pv 1) (nomark _))) (fun _ _ _ _ _ => (pv 9)))
 (pss_cons (ps_dput (hu_of hr) (pe_fld (pv 0) rfl) (pe_ix ix_tup (pv 3) (pe_un un_neg pe_int) (fun _ _ => rfl)) (pe_tup (pa_cons pe_str (pa_cons (RU.pe_tupF (StX.pa_star (pv 7) (pa_cons (pe_tup (pa_cons (pv 1) (pa_cons (pv 2) pa_nil))) (StX.pa_star (pv 8) pa_nil)))) (pa_cons (pv 6) pa_nil)))) rfl)
 (pss_cons (ps_expr (pe_call G_part_up (hr.mono (by first | decide | omega)) rfl T.g_part_up T.F_part_up.kp b_part_up .nil pass0 (pa_cons (pv 0) (pa_cons (pv 3) pa_nil))))
 (pss_one (ps_ret (pe_call G_value_in (hr.mono (by first | decide | omega)) rfl T.g_value_in T.F_value_in.kp b_value_in .nil pass0 (pa_cons (pv 5) (pa_cons (pv 1) pa_nil))))))))))), ?_⟩
    refine ⟨_, rfl, s, dx, _, rfl, hs, bfs_no (by decide +kernel) (by decide +kernel) (by decide +kernel) (by decide +kernel), ?_⟩
    refine ⟨_, rfl, s, dx, d, _, _, key, l, t, D, rfl, hs, hd, hL, hK, few, hl, fun H1 wy s1 hw1 => ?_⟩
    have hs1 := s1 _ _ hs
    have hd1 := hd.same s1
    obtain ⟨pv, hv1, t1, q, rfl, ht1, hq1⟩ := hd1.get hg
    obtain ⟨xs, hqx, hxs⟩ := id hq1
    refine ⟨_, rfl, s, _, dx, _, _, rfl, hs1, T.cl_Book, T.na_Book_pages, bf_pages, _, rfl, 1, rfl, wy, _, _, _, rfl, rfl, SqT.of hw1, way_last hu, d, _, rfl, hv1, t1, _, rfl, SqT.of ht1, rfl, _, _, rfl, _, _, rfl, _, _, rfl, rfl, ?_⟩
    refine ⟨_, rfl, q, rfl, ⟨_, hqx.sq⟩, fun B1 hB1 => ?_⟩
    refine lc_it (walk_tup (xs := xs)) (fun i H' => Same H1 H' ∧ ∃ zs, H' B1 = some (.lst zs) ∧ Paired (PrAt H') zs ((u.ps.take i).filter (fun q => decide (q.1 < key)))) ⟨same_new hB1, [], upd_same, .nil⟩ (fun i H' _ z => (hqx.same z.1).sq) ?_ ?_
    · rintro i x H3 H4 hi' ⟨s3, zs, hD3, hz3⟩ ⟨rfl, hx4⟩
      obtain ⟨p, hp, hpx⟩ := pget1 hxs hx4
      have hpx3 := hpx.keep (Keep.of s3)
      obtain ⟨t2, rfl, ht2⟩ := id hpx3
      have e0 : (u.ps.take (i + 1)).filter (fun q => decide (q.1 < key)) = (u.ps.take i).filter (fun q => decide (q.1 < key)) ++ (if decide (p.1 < key) = true then [p] else []) := by
        rw [take_more hp, List.filter_append, List.filter_cons, List.filter_nil]
      refine ⟨rfl, ?_⟩
      refine ⟨_, rfl, t2, _, _, _, rfl, rfl, SqT.of ht2, rfl, _, rfl, _, _, rfl, rfl, _, rfl, ?_⟩
      cases c1 : decide (p.1 < key) with
      | false =>
        refine iteF ⟨s3, zs, hD3, ?_⟩
        rw [e0, if_neg (by rw [show decide (p.1 < key) = false from c1]; exact Bool.false_ne_true), List.append_nil]
        exact hz3
      | true =>
        refine iteT ?_
        have k5 : Keep H4 (upd H4 B1 (.lst (zs ++ [.ref t2]))) := (Keep.refl _).upd fun zs e => by rw [hD3] at e; cases e; rfl
        refine ⟨_, rfl, _, hD3, ?_, same_upd s3 hB1, _, upd_same, ?_⟩
        · rw [hz3.length]
          refine Nat.lt_of_le_of_lt (List.length_filter_le _ _) (Nat.lt_of_le_of_lt (List.length_take_le' _ _) (Nat.lt_of_le_of_lt hul (by decide)))
        · rw [e0, if_pos (show decide (p.1 < key) = true from c1)]
          exact paired_snoc (PrAt.keep k5 ⟨t2, rfl, ht2⟩) (paired_imp (fun _ _ r => PrAt.keep k5 r) hz3)
    · rintro H2 ⟨s2, zs, hD2, hz2⟩
      rw [hxs.length, List.take_length] at hz2
      have hqx2 := hqx.same s2
      have hxs2 := paired_imp (fun _ _ r => PrAt.keep (Keep.of s2) r) hxs
      refine ⟨_, rfl, q, rfl, ⟨_, hqx2.sq⟩, fun B2 hB2 => ?_⟩
      refine lc_it (walk_tup (xs := xs)) (fun i H' => Same H2 H' ∧ ∃ zs, H' B2 = some (.lst zs) ∧ Paired (PrAt H') zs ((u.ps.take i).filter (fun q => decide (key < q.1)))) ⟨same_new hB2, [], upd_same, .nil⟩ (fun i H' _ z => (hqx2.same z.1).sq) ?_ ?_
      · rintro i x H3 H4 hi' ⟨s3, zs, hD3, hz3⟩ ⟨rfl, hx4⟩
        obtain ⟨p, hp, hpx⟩ := pget1 hxs2 hx4
        have hpx3 := hpx.keep (Keep.of s3)
        obtain ⟨t2, rfl, ht2⟩ := id hpx3
        have e0 : (u.ps.take (i + 1)).filter (fun q => decide (key < q.1)) = (u.ps.take i).filter (fun q => decide (key < q.1)) ++ (if decide (key < p.1) = true then [p] else []) := by
          rw [take_more hp, List.filter_append, List.filter_cons, List.filter_nil]
        refine ⟨rfl, ?_⟩
        refine ⟨_, rfl, t2, _, _, _, rfl, rfl, SqT.of ht2, rfl, _, rfl, _, _, rfl, rfl, _, rfl, ?_⟩
        cases c1 : decide (key < p.1) with
        | false =>
          refine iteF ⟨s3, zs, hD3, ?_⟩
          rw [e0, if_neg (by rw [show decide (key < p.1) = false from c1]; exact Bool.false_ne_true), List.append_nil]
          exact hz3
        | true =>
          refine iteT ?_
          have k5 : Keep H4 (upd H4 B2 (.lst (zs ++ [.ref t2]))) := (Keep.refl _).upd fun zs e => by rw [hD3] at e; cases e; rfl
          refine ⟨_, rfl, _, hD3, ?_, same_upd s3 hB2, _, upd_same, ?_⟩
          · rw [hz3.length]
            refine Nat.lt_of_le_of_lt (List.length_filter_le _ _) (Nat.lt_of_le_of_lt (List.length_take_le' _ _) (Nat.lt_of_le_of_lt hul (by decide)))
          · rw [e0, if_pos (show decide (key < p.1) = true from c1)]
            exact paired_snoc (PrAt.keep k5 ⟨t2, rfl, ht2⟩) (paired_imp (fun _ _ r => PrAt.keep k5 r) hz3)
      · rintro H3 ⟨s3, zs3, hD3, hz3⟩
        rw [hxs2.length, List.take_length] at hz3
        have s13 := s2.trans s3
        have hs3 := s13 _ _ hs1
        have hd3 := hd1.same s13
        have hDa := s3 _ _ hD2
        have hza := paired_imp (fun _ _ r => PrAt.keep (Keep.of s3) r) hz2
        have ei : insP u.ps key value = u.ps.filter (fun q => decide (q.1 < key)) ++ (key, value) :: u.ps.filter (fun q => decide (key < q.1)) := rfl
        have li := congrArg List.length ei
        rw [List.length_append, List.length_cons] at li
        have il : (insP u.ps key value).length ≤ 3000 := by
          have z1 := List.length_filter_le (fun q : Int × Int => decide (q.1 < key)) u.ps
          have z2 := List.length_filter_le (fun q : Int × Int => decide (key < q.1)) u.ps
          omega
        refine ⟨_, rfl, B1, _, rfl, .inr (SqL.of hDa), _, rfl, _, rfl, by show 2 ≤ sizeLine; decide, fun r hr => ?_⟩
        have s4 : Same H3 (upd H3 r (.tup [.int key, .int value])) := same_new hr
        have hr4 : upd H3 r (.tup [.int key, .int value]) r = some (.tup [.int key, .int value]) := upd_same
        generalize upd H3 r (.tup [.int key, .int value]) = H4 at s4 hr4
        refine ⟨_, rfl, B2, _, rfl, .inr (SqL.of (s4 _ _ hD3)), ?_, fun f fo hf hfo => ?_⟩
        · rw [List.length_append, List.length_cons, List.append_nil, hza.length, hz3.length]
          exact Nat.le_trans (by omega : _ ≤ 3000) (by decide)
        have hrows : Paired (PrAt H4) (zs ++ V.ref r :: (zs3 ++ [])) (insP u.ps key value) := by
          rw [List.append_nil, ei]
          exact paired_app (paired_imp (fun _ _ r => PrAt.keep (Keep.of s4) r) hza) (.cons ⟨r, rfl, hr4⟩ (paired_imp (fun _ _ r => PrAt.keep (Keep.of s4) r) hz3))
        generalize zs ++ V.ref r :: (zs3 ++ []) = rows at hrows
        have s5 : Same H4 (upd H4 f (.frz fo (.tup rows))) := same_new hf
        have hf5 : FzT (upd H4 f (.frz fo (.tup rows))) f rows := ⟨fo, upd_same, hfo⟩
        generalize upd H4 f (.frz fo (.tup rows)) = H5 at s5 hf5
        refine ⟨_, rfl, by show 3 ≤ sizeLine; decide, fun e he => ?_⟩
        have s6 : Same H5 (upd H5 e (.tup [.str "leaf", .ref f, .int nx])) := same_new he
        have he6 : upd H5 e (.tup [.str "leaf", .ref f, .int nx]) e = some (.tup [.str "leaf", .ref f, .int nx]) := upd_same
        generalize upd H5 e (.tup [.str "leaf", .ref f, .int nx]) = H6 at s6 he6
        have s36 := (s4.trans s5).trans s6
        obtain ⟨es, hd6, hde6⟩ := hd3.same s36
        have hw6 := s36 _ _ (s13 _ _ hw1)
        have nl := hde6.length
        refine ⟨_, rfl, s, _, dx, _, _, rfl, s36 _ _ hs3, T.cl_Book, T.na_Book_pages, bf_pages, _, rfl, 1, rfl, wy, _, _, _, rfl, rfl, SqT.of hw6, way_last hu, d, _, rfl, DPut.k (k := .inl (num 0 u)) hd6 ?_, ?_⟩
        · exact Nat.lt_of_le_of_lt (by omega : es.length ≤ 100000) (by decide)
        have k7 : Keep H6 (upd H6 d (.dK (putK es (.inl (num 0 u)) (.ref e)))) := (Keep.refl H6).upd fun ys e => by rw [hd6] at e; cases e; rfl
        have b7 : But d H6 (upd H6 d (.dK (putK es (.inl (num 0 u)) (.ref e)))) := (But.refl d H6).upd
        have hrow7 := paired_imp (fun _ _ r => PrAt.keep ((Keep.of (s5.trans s6)).trans k7) r) hrows
        have pg7 : PgAt (upd H6 d (.dK (putK es (.inl (num 0 u)) (.ref e)))) (.ref e) (.leaf (insP u.ps key value) nx) := ⟨e, f, rfl, k7 _ _ he6, _, (hf5.same s6).keep k7, hrow7⟩
        have hd7 : DctAt (upd H6 d (.dK (putK es (.inl (num 0 u)) (.ref e)))) d (setp D (num 0 u) (.leaf (insP u.ps key value) nx)) := by
          refine ⟨_, upd_same, ?_⟩
          have epk := putK_old (v := V.ref e) hde6 hg
          refine (congrArg (fun y => Paired (EnAt (upd H6 d (.dK (putK es (.inl (num 0 u)) (.ref e))))) y (setp D (num 0 u) (.leaf (insP u.ps key value) nx))) epk).mpr ?_
          exact DctAt.set (k := num 0 u) pg7 (paired_imp (fun _ _ (r : EnAt H6 _ _) => (⟨r.1, r.2.keep k7⟩ : EnAt _ _ _)) hde6)
        have nds : s ≠ d := fun z => by
          have := s36 _ _ hs3
          rw [z, hd6] at this
          cases this
        have nwd : wy ≠ d := fun z => by rw [z, hd6] at hw6; cases hw6
        generalize upd H6 d (.dK (putK es (.inl (num 0 u)) (.ref e))) = H7 at k7 b7 hd7
        refine ⟨_, rfl, _, rfl, s, dx, d, wy, room, num l t, wayOf l t key, setp D (num 0 u) (.leaf (insP u.ps key value) nx), rfl, b7 _ _ nds (s36 _ _ hs3), hd7, b7 _ _ nwd hw6, r3, r8, Nat.le_trans wayOf_len (by omega), hup, fun H8 f8 hs8 hd8 => ?_⟩
        have hs7 := b7 _ _ nds (s36 _ _ hs3)
        obtain ⟨es7, hd71, _⟩ := hd7
        have k8 : Keep H7 H8 := ⟨fun b u tu e => f8 b u (tpb_no (fun u e => by rw [hd71] at e; cases e; rfl) tu e) (tpb_no (fun u e => by rw [hs7] at e; cases e; rfl) tu e) e⟩
        refine ⟨_, rfl, _, rfl, q, u.ps, key, rfl, ((hq1.keep (Keep.of (s13.trans s36))).keep k7).keep k8, fun H9 s9 => ?_⟩
        refine kq H9 (fun b o nb nb2 z => ?_) (s9 _ _ hs8) (hd8.same s9)
        exact s9 _ _ (f8 _ _ nb nb2 (b7 _ _ nb (s36 _ _ (s13 _ _ (s1 _ _ z)))))
def sp_put : Sp := fun vs H Q _ => ∃ (v : V) (key value : Int) (room l : Nat) (t : Tr l) (S : List (Int × Pg)) (u : Tr 0) (nx : Int), vs = [v, .int key, .int value] ∧ SndAt H v room l t S ∧ 0 ≤ key ∧ key ≤ 1000000000 ∧ 0 ≤ value ∧ value ≤ 1000000000 ∧ l ≤ 100 ∧
  leafOf l t key = some u ∧ u ∈ lfs l t ∧ lkp S (num 0 u) = some (.leaf u.ps nx) ∧
  ∀ (H' : Hp) (a b : Addr) (S' : List (Int × Pg)), Same H H' → H' a = some (.tup [.ref b, ovV (lkpP u.ps key)]) → TreeAt H' (.ref b) room (putD room l t S u nx key value).2 S' → S'.Perm (putD room l t S u nx key value).1 → S'.Pairwise (fun a b => a.1 < b.1) → Q (.ref a) H'
end
end K29

namespace K29
open PySem PySem.Spec PyProof.Rows L2 RZ HX TR RP
/-! ### which pages a put changes: plain mathematics -/
theorem upD_keep {room half : Nat} {x : Int} : ∀ (L : List Int) {D : List (Int × Pg)} {root : Int}, x ∉ L → lkp D x ≠ none → lkp (upD room half D root L).1 x = lkp D x
  | [], D, root, _, _ => by simp only [upD]
  | [n], D, root, hx, h => by
    have hn : x ≠ n := fun z => hx (by rw [z]; exact List.mem_singleton.mpr rfl)
    cases c : lkp D n with
    | none => simp only [upD, c]
    | some g =>
      by_cases hle : Pg.parts g ≤ room
      · rw [upD_stay c hle]
      · rw [upD_top c hle]
        have h1 : lkp (part1 half D n g).1 x = lkp D x := part1_lkp h hn
        rw [lkp_app (.inl (by rw [h1]; exact h)), h1]
  | n :: e :: rest, D, root, hx, h => by
    have hn : x ≠ n := fun z => hx (by rw [z]; exact List.mem_cons_self ..)
    have he : x ∉ e :: rest := fun z => hx (List.mem_cons_of_mem _ z)
    have hne : x ≠ e := fun z => he (by rw [z]; exact List.mem_cons_self ..)
    cases c : lkp D n with
    | none => simp only [upD, c]
    | some g =>
      by_cases hle : Pg.parts g ≤ room
      · rw [upD_stay c hle]
      · have h1 : lkp (part1 half D n g).1 x = lkp D x := part1_lkp h hn
        cases c2 : lkp (part1 half D n g).1 e with
        | none => simp only [upD, c, if_neg hle, c2]
        | some ge =>
          rw [upD_up c hle c2, upD_keep (e :: rest) he (by rw [lkp_setp_ne hne, h1]; exact h), lkp_setp_ne hne, h1]
/-- what parting leaves of the page itself -/
theorem part1_self {half : Nat} {D : List (Int × Pg)} {n : Int} {g : Pg} (hg : lkp D n = some g) : lkp (part1 half D n g).1 n = some (cutPg (Pg.parts g - half) (freeN D) g).1 := by
  unfold part1
  dsimp only
  rw [lkp_app (.inl (by rw [lkp_setp_eq hg]; exact nofun)), lkp_setp_eq hg]
theorem cutPg_parts {cut : Nat} {new : Int} : ∀ {g : Pg}, PgW g → cut ≤ Pg.parts g → Pg.parts (cutPg cut new g).1 = cut
  | .leaf ps nx, _, h => by
    show (ps.take cut).length = cut
    rw [List.length_take]
    exact Nat.min_eq_left h
  | .node ks kids, _, h => by
    show (kids.take cut).length = cut
    rw [List.length_take]
    exact Nat.min_eq_left h
/-- pages beneath are other ones; up to the first that has room; above they stay, or the root is new -/
def OutAt (room : Nat) (S D' : List (Int × Pg)) (root root' : Int) : List Int → Prop
  | [] => (∃ k new, lkp D' root' = some (.node [k] [root, new])) ∧ lkp S root' = none
  | n :: rest => lkp D' n ≠ lkp S n ∧ ∃ g, lkp S n = some g ∧ (if Pg.parts g < room then (∀ x ∈ rest, lkp D' x = lkp S x) ∧ root' = root else OutAt room S D' root root' rest)
theorem up_stepU {room i : Nat} {D : List (Int × Pg)} {L rest : List Int} {n e : Int} {g : Pg} {ks kids : List Int} (r8 : room ≤ 8) (h : UpAt room D i L) (eL : L = n :: e :: rest) (hkeys : KeysLe (part1 ((room + 1) / 2) D n g).1 (1000000 + 2 * i + 1))
    (he : lkp D e = some (.node ks kids)) (hkl : ks.length + 1 = kids.length) (hkr : kids.length ≤ room) (hnk : n ∈ kids) :
    UpAt room (setp (part1 ((room + 1) / 2) D n g).1 e (addK n (part1 ((room + 1) / 2) D n g).2.1 (part1 ((room + 1) / 2) D n g).2.2 (.node ks kids))) (i + 1) (e :: rest) := by
  obtain ⟨_, hab, hnd⟩ := h.head n (e :: rest) eL
  obtain ⟨_, hab2⟩ := hab
  have hen : e ≠ n := fun z => (List.nodup_cons.mp hnd).1 (by rw [z]; exact List.mem_cons_self ..)
  have he2 : lkp (part1 ((room + 1) / 2) D n g).1 e = some (.node ks kids) := by
    rw [part1_lkp (by rw [he]; exact nofun) hen]
    exact he
  have hix := List.idxOf_lt_length_of_mem hnk
  refine ⟨fun n' above ez => ?_, fun q hq => ?_, ?_⟩
  · cases ez
    refine ⟨⟨_, lkp_setp_eq he2, ?_, ?_⟩, hab2.congr fun x hx => ?_, (List.nodup_cons.mp hnd).2⟩
    · unfold addK PgW
      dsimp only
      rw [List.length_append, List.length_append, List.length_cons, List.length_cons, List.length_take, List.length_take, List.length_drop, List.length_drop]
      omega
    · unfold addK Pg.parts
      dsimp only
      rw [List.length_append, List.length_cons, List.length_take, List.length_drop]
      omega
    · have hxe : x ≠ e := fun z => (List.nodup_cons.mp (List.nodup_cons.mp hnd).2).1 (by rw [← z]; exact hx)
      have hxn : x ≠ n := fun z => (List.nodup_cons.mp hnd).1 (by rw [← z]; exact List.mem_cons_of_mem _ hx)
      rw [lkp_setp_ne hxe, part1_lkp (Abv.there hab2 x hx) hxn]
  · have := setp_keysLe hkeys q hq
    omega
  · have := h.few
    rw [setp_len, part1_len]
    omega
theorem free_ex {D : List (Int × Pg)} {B : Int} (hB : 0 ≤ B) (h : KeysLe D B) : ∃ n, IsFree D n := by
  have key : ∀ m : Nat, lkp D ((m : Int) + 1) = none → ∃ k : Nat, lkp D ((k : Int) + 1) = none ∧ ∀ j : Nat, j < k → lkp D ((j : Int) + 1) ≠ none := fun m => Nat.strongRecOn m fun m ih hm => by
    by_cases c : ∃ j : Nat, j < m ∧ lkp D ((j : Int) + 1) = none
    · obtain ⟨j, hj, hn⟩ := c
      exact ih j hj hn
    · exact ⟨m, hm, fun j hj hn => c ⟨j, hj, hn⟩⟩
  obtain ⟨k, h1, h2⟩ := key B.toNat (h.free (by omega))
  refine ⟨(k : Int) + 1, by omega, h1, fun m m1 m2 => ?_⟩
  have := h2 (m - 1).toNat (by omega)
  rw [show (((m - 1).toNat : Nat) : Int) + 1 = m by omega] at this
  exact this
theorem free_is {D : List (Int × Pg)} {B : Int} (hB : 0 ≤ B) (h : KeysLe D B) : IsFree D (freeN D) := by
  obtain ⟨n, hn⟩ := free_ex hB h
  rw [freeN_of hn]
  exact hn
theorem part1_there {half : Nat} {D : List (Int × Pg)} {n x : Int} {g : Pg} (hg : lkp D n = some g) (hx : lkp D x ≠ none) : lkp (part1 half D n g).1 x ≠ none := by
  by_cases c : x = n
  · rw [c, part1_self hg]
    exact nofun
  · rw [part1_lkp hx c]
    exact hx
/-- from a page that has got one part more -/
theorem up_out {room : Nat} {S : List (Int × Pg)} {root : Int} (r3 : 3 ≤ room) (r8 : room ≤ 8) : ∀ (L : List Int) {D : List (Int × Pg)} {i : Nat} {n : Int} {g g' : Pg}, UpAt room D i L → L.head? = some n → L.getLast? = some root → lkp S n = some g → lkp D n = some g' → Pg.parts g' = Pg.parts g + 1 → Pg.parts g ≤ room → PgW g' → (∀ x ∈ L.tail, lkp D x = lkp S x) → (∀ x, lkp S x ≠ none → lkp D x ≠ none) →
    OutAt room S (upD room ((room + 1) / 2) D root L).1 root (upD room ((room + 1) / 2) D root L).2 L
  | [], D, i, n, g, g', _, hh, _, _, _, _, _, _, _, _ => by cases hh
  | [m], D, i, n, g, g', hU, hh, hlast, hS, hD, hp, hr, hw, hrest, hall => by
    cases hh
    cases hlast
    by_cases hle : Pg.parts g' ≤ room
    · rw [upD_stay hD hle]
      refine ⟨?_, g, hS, ?_⟩
      · show lkp D m ≠ lkp S m
        rw [hD, hS]
        intro z
        cases z
        omega
      · rw [if_pos (by omega)]
        exact ⟨(fun x hx => nomatch hx), rfl⟩
    · rw [upD_top hD hle]
      have hself := part1_self (half := (room + 1) / 2) hD
      have hcp := cutPg_parts (cut := Pg.parts g' - (room + 1) / 2) (new := freeN D) hw (by omega)
      have hf0 := free_is (by omega) hU.keys
      have hkeys := part1_keys (half := (room + 1) / 2) (n := m) (g := g') (by omega) hU.keys hf0
      have hf := free_is (by omega) hkeys
      have hm1 : lkp ((part1 ((room + 1) / 2) D m g').1 ++ [(freeN (part1 ((room + 1) / 2) D m g').1, .node [(part1 ((room + 1) / 2) D m g').2.1] [m, (part1 ((room + 1) / 2) D m g').2.2])]) m = some (cutPg (Pg.parts g' - (room + 1) / 2) (freeN D) g').1 := by
        rw [lkp_app (.inl (by rw [hself]; exact nofun)), hself]
      refine ⟨?_, g, hS, ?_⟩
      · rw [hm1, hS]
        intro z
        cases z
        omega
      · rw [if_neg (by omega)]
        refine ⟨⟨_, _, lkp_new hf.2.1⟩, ?_⟩
        cases c : lkp S (freeN (part1 ((room + 1) / 2) D m g').1) with
        | none => rfl
        | some y => exact (part1_there hD (hall _ (by rw [c]; exact nofun)) hf.2.1).elim
  | m :: e :: rest, D, i, n, g, g', hU, hh, hlast, hS, hD, hp, hr, hw, hrest, hall => by
    cases hh
    by_cases hle : Pg.parts g' ≤ room
    · rw [upD_stay hD hle]
      refine ⟨?_, g, hS, ?_⟩
      · show lkp D m ≠ lkp S m
        rw [hD, hS]
        intro z
        cases z
        omega
      · rw [if_pos (by omega)]
        exact ⟨fun x hx => hrest x hx, rfl⟩
    · obtain ⟨_, hab, hnd⟩ := hU.head m (e :: rest) rfl
      obtain ⟨⟨ks, kids, he1, hkl, hkr, hnk⟩, hab2⟩ := id hab
      have hme : m ∉ e :: rest := (List.nodup_cons.mp hnd).1
      have hem : e ≠ m := fun z => hme (by rw [← z]; exact List.mem_cons_self ..)
      have hself := part1_self (half := (room + 1) / 2) hD
      have hcp := cutPg_parts (cut := Pg.parts g' - (room + 1) / 2) (new := freeN D) hw (by omega)
      have hf0 := free_is (by omega) hU.keys
      have hkeys := part1_keys (half := (room + 1) / 2) (n := m) (g := g') (by omega) hU.keys hf0
      have he2 : lkp (part1 ((room + 1) / 2) D m g').1 e = some (.node ks kids) := by
        rw [part1_lkp (by rw [he1]; exact nofun) hem]
        exact he1
      rw [upD_up hD hle he2]
      have hix := List.idxOf_lt_length_of_mem hnk
      have hst := up_stepU (g := g') r8 hU rfl hkeys he1 hkl hkr hnk
      have hm2 : lkp (setp (part1 ((room + 1) / 2) D m g').1 e (addK m (part1 ((room + 1) / 2) D m g').2.1 (part1 ((room + 1) / 2) D m g').2.2 (.node ks kids))) m = some (cutPg (Pg.parts g' - (room + 1) / 2) (freeN D) g').1 := by
        rw [lkp_setp_ne hem.symm, hself]
      have ih := up_out r3 r8 (e :: rest) (n := e) (g := .node ks kids) (g' := addK m (part1 ((room + 1) / 2) D m g').2.1 (part1 ((room + 1) / 2) D m g').2.2 (.node ks kids)) hst rfl (by rw [List.getLast?_cons_cons] at hlast; exact hlast) (by rw [← hrest e (List.mem_cons_self ..)]; exact he1) (lkp_setp_eq he2) (by
          unfold addK Pg.parts
          dsimp only
          rw [List.length_append, List.length_cons, List.length_take, List.length_drop]
          omega) hkr (by
          unfold addK PgW
          dsimp only
          rw [List.length_append, List.length_append, List.length_cons, List.length_cons, List.length_take, List.length_take, List.length_drop, List.length_drop]
          omega) (fun x hx => by
          have hxe : x ≠ e := fun z => (List.nodup_cons.mp (List.nodup_cons.mp hnd).2).1 (by rw [← z]; exact hx)
          have hxm : x ≠ m := fun z => hme (by rw [← z]; exact List.mem_cons_of_mem _ hx)
          rw [lkp_setp_ne hxe, part1_lkp (Abv.there hab2 x hx) hxm]
          exact hrest x (List.mem_cons_of_mem _ hx)) (fun x hx => by
          by_cases c : x = e
          · rw [c, lkp_setp_eq he2]
            exact nofun
          · rw [lkp_setp_ne c]
            exact part1_there hD (hall x hx))
      refine ⟨?_, g, hS, ?_⟩
      · rw [upD_keep (e :: rest) hme (by rw [hm2]; exact nofun), hm2, hS]
        intro z
        cases z
        omega
      · rw [if_neg (by omega)]
        exact ih
end K29

namespace K29
open PySem PySem.Spec PyProof.Rows L2 RZ HX TR RP
/-! ### pages as data -/
theorem eqv_prs : ∀ ps qs : List (Int × Int), (PyData.eqvAll (ps.map prD) (qs.map prD) = true ↔ ps = qs)
  | [], [] => by simp [PyData.eqvAll]
  | [], _ :: _ => by simp [PyData.eqvAll]
  | _ :: _, [] => by simp [PyData.eqvAll]
  | (a, b) :: ps, (c, d) :: qs => by
    have ih := eqv_prs ps qs
    simp only [List.map_cons, PyData.eqvAll, prD, PyData.eqv, Bool.and_eq_true, beq_iff_eq, ih, List.cons.injEq, Prod.mk.injEq, and_true]
theorem eqv_pg : ∀ {g g' : Pg}, PyData.eqv (pgD g) (pgD g') = true ↔ g = g'
  | .leaf ps nx, .leaf qs mx => by
    simp only [pgD, PyData.eqv, PyData.eqvAll, Bool.and_eq_true, beq_iff_eq, eqv_prs, Pg.leaf.injEq, and_true, true_and]
  | .leaf ps nx, .node ks kids => by
    have e : (Str.ofString "leaf" == Str.ofString "node") = false := by decide +kernel
    simp [pgD, PyData.eqv, PyData.eqvAll, e]
  | .node ks kids, .leaf ps nx => by
    have e : (Str.ofString "node" == Str.ofString "leaf") = false := by decide +kernel
    simp [pgD, PyData.eqv, PyData.eqvAll, e]
  | .node ks kids, .node ks' kids' => by
    simp only [pgD, PyData.eqv, PyData.eqvAll, Bool.and_eq_true, beq_iff_eq, eqv_intsA, decide_eq_true_eq, Pg.node.injEq, and_true, true_and]
theorem eqv_pgB {g g' : Pg} (h : g ≠ g') : PyData.eqv (pgD g) (pgD g') = false := by
  cases c : PyData.eqv (pgD g) (pgD g') with
  | false => rfl
  | true => exact (h (eqv_pg.mp c)).elim
theorem lay_prs : ∀ ps : List (Int × Int), PyData.canLayAll0 (ps.map prD) = true
  | [] => by simp only [List.map_nil, PyData.canLayAll0]
  | p :: ps => by simp only [List.map_cons, PyData.canLayAll0, prD, PyData.canLay0, lay_prs ps, Bool.and_self]
theorem deep_prs : ∀ ps : List (Int × Int), PyData.depthAll (ps.map prD) ≤ 1
  | [] => by simp only [List.map_nil, PyData.depthAll]; omega
  | p :: ps => by
    have := deep_prs ps
    simp only [List.map_cons, PyData.depthAll, prD, PyData.depth]
    omega
theorem lay_pg : ∀ g : Pg, PyData.canLay0 (pgD g) = true
  | .leaf ps nx => by
    have e : PyData.canLay0 (.str (Str.ofString "leaf")) = true := by decide +kernel
    have e' := e
    simp only [pgD, PyData.canLay0, PyData.canLayAll0, lay_prs, Bool.and_true, Bool.and_self] at e' ⊢
    exact e'
  | .node ks kids => by
    have e : PyData.canLay0 (.str (Str.ofString "node")) = true := by decide +kernel
    have e' := e
    simp only [pgD, PyData.canLay0, PyData.canLayAll0, lay_ints, Bool.and_true, Bool.and_self] at e' ⊢
    exact e'
theorem deep_pg : ∀ g : Pg, PyData.depth (pgD g) ≤ 3
  | .leaf ps nx => by
    have := deep_prs ps
    simp only [pgD, PyData.depth, PyData.depthAll]
    omega
  | .node ks kids => by
    simp only [pgD, PyData.depth, PyData.depthAll, deep_ints]
    omega
theorem shaped_pg (g : Pg) : SeqAt.shaped (pgD g) = true := by
  unfold SeqAt.shaped
  rw [lay_pg g, decide_eq_true (Nat.le_trans (deep_pg g) (by decide))]
  rfl
theorem lay_nums : ∀ S : List (Int × Pg), PyData.canLayAll0 (S.map numD) = true
  | [] => by simp only [List.map_nil, PyData.canLayAll0]
  | q :: S => by simp only [List.map_cons, PyData.canLayAll0, numD, PyData.canLay0, lay_pg, lay_nums S, Bool.and_self]
theorem deep_nums : ∀ S : List (Int × Pg), PyData.depthAll (S.map numD) ≤ 4
  | [] => by simp only [List.map_nil, PyData.depthAll]; omega
  | q :: S => by
    have := deep_nums S
    have := deep_pg q.2
    simp only [List.map_cons, PyData.depthAll, numD, PyData.depth]
    omega
theorem can_tree {room root : Int} {S : List (Int × Pg)} : PyData.canLay0 (treeD room root S) = true := by
  simp only [treeD, PyData.canLay0, PyData.canLayAll0, lay_nums, Bool.and_self]
theorem shaped_tree {room root : Int} {S : List (Int × Pg)} : SeqAt.shaped (treeD room root S) = true := by
  unfold SeqAt.shaped
  have := deep_nums S
  rw [can_tree, decide_eq_true (by simp only [treeD, PyData.depth, PyData.depthAll]; omega : PyData.depth (treeD room root S) ≤ 64)]
  rfl
end K29

namespace K29
open PySem PySem.Spec PyProof.Rows L2 RZ HX TR RP
/-! ### a put keeps a tree a tree: plain mathematics -/
theorem KBs.parts {α : Type} {R : α → Int → Int → Prop} {hi : Int} : ∀ {kids : List α} {ks : List Int} {lo : Int}, KBs R lo ks kids hi → ∀ {j : Nat} {c : α}, kids[j]? = some c → ∃ a b, (lo :: ks)[j]? = some a ∧ (ks ++ [hi])[j]? = some b ∧ R c a b ∧
    (∀ c', R c' a b → KBs R lo ks (kids.set j c') hi) ∧ (∀ c1 k c2, R c1 a k → R c2 k b → KBs R lo (ks.take j ++ k :: ks.drop j) (kids.take j ++ c1 :: c2 :: kids.drop (j + 1)) hi)
  | [], ks, _, h, _, _, _ => by cases ks <;> exact h.elim
  | [x], [], lo, h, j, c, e => by
    cases j with
    | zero =>
      cases e
      exact ⟨lo, hi, rfl, rfl, h, (fun c' h' => h'), fun c1 k c2 h1 h2 => ⟨h1, h2⟩⟩
    | succ j => simp at e
  | _ :: _ :: _, [], _, h, _, _, _ => h.elim
  | x :: kids, b :: ks, lo, ⟨h1, h2⟩, j, c, e => by
    cases j with
    | zero =>
      cases e
      exact ⟨lo, b, rfl, rfl, h1, (fun c' h' => ⟨h', h2⟩), fun c1 k c2 g1 g2 => ⟨g1, g2, h2⟩⟩
    | succ j =>
      obtain ⟨a', b', e1, e2, e3, e4, e5⟩ := KBs.parts h2 (j := j) (c := c) e
      exact ⟨a', b', e1, e2, e3, (fun c' h' => ⟨h1, e4 c' h'⟩), fun c1 k c2 g1 g2 => ⟨h1, e5 c1 k c2 g1 g2⟩⟩
theorem KBs.cut {α : Type} {R : α → Int → Int → Prop} {hi : Int} : ∀ {kids : List α} {ks : List Int} {lo : Int}, KBs R lo ks kids hi → ∀ {n : Nat}, n + 1 < kids.length → ∃ k, ks[n]? = some k ∧ KBs R lo (ks.take n) (kids.take (n + 1)) k ∧ KBs R k (ks.drop (n + 1)) (kids.drop (n + 1)) hi
  | [], ks, _, h, _, _ => by cases ks <;> exact h.elim
  | [x], [], lo, h, n, hn => by simp at hn
  | _ :: _ :: _, [], _, h, _, _ => h.elim
  | x :: kids, b :: ks, lo, ⟨h1, h2⟩, n, hn => by
    cases n with
    | zero => exact ⟨b, rfl, h1, h2⟩
    | succ n =>
      obtain ⟨k, e1, e2, e3⟩ := KBs.cut h2 (n := n) (by simp only [List.length_cons] at hn; omega)
      exact ⟨k, e1, ⟨h1, e2⟩, e3⟩
theorem KBs.lt {α : Type} {R : α → Int → Int → Prop} {hi : Int} : ∀ {kids : List α} {ks : List Int} {lo : Int}, KBs R lo ks kids hi → (∀ x ∈ kids, ∀ a b, R x a b → a < b) → lo < hi ∧ (∀ k ∈ ks, lo < k ∧ k < hi) ∧ ks.Pairwise (· < ·)
  | [], ks, _, h, _ => by cases ks <;> exact h.elim
  | [x], [], lo, h, f => ⟨f x (List.mem_cons_self ..) _ _ h, (fun _ h => nomatch h), .nil⟩
  | _ :: _ :: _, [], _, h, _ => h.elim
  | x :: kids, b :: ks, lo, ⟨h1, h2⟩, f => by
    obtain ⟨i1, i2, i3⟩ := KBs.lt h2 fun y hy => f y (List.mem_cons_of_mem _ hy)
    have l1 := f x (List.mem_cons_self ..) _ _ h1
    refine ⟨by omega, fun k hk => ?_, List.pairwise_cons.mpr ⟨fun k hk => (i2 k hk).1, i3⟩⟩
    rcases List.mem_cons.mp hk with rfl | hk
    · exact ⟨l1, i1⟩
    · have := i2 k hk
      omega
theorem keyB_lt {room : Nat} (hr : 3 ≤ room) : ∀ {l : Nat} {t : Tr l} {lo hi : Int}, KeyB l t lo hi → WfSh room l false (shp l t) → lo < hi
  | 0, t, lo, hi, h, w => by
    obtain ⟨q, r, e, h1⟩ := keyB_head hr h w
    have h2 := h q (by show q ∈ prs 0 t; rw [e]; exact List.mem_cons_self ..)
    omega
  | l + 1, t, lo, hi, h, w => (KBs.lt (R := KeyB l) h fun x hx a b hR => keyB_lt hr hR (w.2.2 _ (List.mem_map_of_mem hx))).1
theorem place_iff : ∀ {ks : List Int} {k : Int}, ks.Pairwise (· < ·) → ∀ {i : Nat} {x : Int}, ks[i]? = some x → (i < placeOf ks k ↔ x ≤ k)
  | [], _, _, i, x, h => by simp at h
  | a :: ks, k, s, i, x, h => by
    obtain ⟨s1, s2⟩ := List.pairwise_cons.mp s
    unfold placeOf
    rw [List.filter_cons]
    by_cases c : a ≤ k
    · rw [if_pos (decide_eq_true c), List.length_cons]
      cases i with
      | zero =>
        cases h
        constructor
        · intro _; exact c
        · intro _; omega
      | succ i =>
        have ih := place_iff (k := k) s2 (i := i) (x := x) h
        unfold placeOf at ih
        omega
    · rw [if_neg (by simp only [decide_eq_true_eq]; exact c)]
      have e : ks.filter (fun x => decide (x ≤ k)) = [] := List.filter_eq_nil_iff.mpr fun y hy => by
        have := s1 y hy
        simp only [decide_eq_true_eq]
        omega
      rw [e]
      cases i with
      | zero =>
        cases h
        simp only [List.length_nil]
        omega
      | succ i =>
        have := s1 x (List.mem_of_getElem? h)
        simp only [List.length_nil]
        omega
/-! insP -/
theorem insP_mid {P M R : List (Int × Int)} {k v : Int} (h1 : ∀ q ∈ P, q.1 < k) (h2 : ∀ q ∈ R, k < q.1) : insP (P ++ M ++ R) k v = P ++ insP M k v ++ R := by
  have a1 : P.filter (fun q => decide (q.1 < k)) = P := List.filter_eq_self.mpr fun q hq => decide_eq_true (h1 q hq)
  have a2 : P.filter (fun q => decide (k < q.1)) = [] := List.filter_eq_nil_iff.mpr fun q hq => by
    have := h1 q hq
    simp only [decide_eq_true_eq]
    omega
  have b1 : R.filter (fun q => decide (q.1 < k)) = [] := List.filter_eq_nil_iff.mpr fun q hq => by
    have := h2 q hq
    simp only [decide_eq_true_eq]
    omega
  have b2 : R.filter (fun q => decide (k < q.1)) = R := List.filter_eq_self.mpr fun q hq => decide_eq_true (h2 q hq)
  unfold insP
  simp only [List.filter_append, a1, a2, b1, b2, List.append_nil, List.nil_append, List.append_assoc, List.cons_append]
theorem insP_mem {P : List (Int × Int)} {k v : Int} {q : Int × Int} (h : q ∈ insP P k v) : q = (k, v) ∨ q ∈ P := by
  unfold insP at h
  rcases List.mem_append.mp h with h | h
  · exact .inr (List.mem_filter.mp h).1
  · rcases List.mem_cons.mp h with h | h
    · exact .inl h
    · exact .inr (List.mem_filter.mp h).1
theorem insP_rise {P : List (Int × Int)} {k v : Int} (h : P.Pairwise fun a b => a.1 < b.1) : (insP P k v).Pairwise fun a b => a.1 < b.1 := by
  unfold insP
  refine List.pairwise_append.mpr ⟨h.filter _, List.pairwise_cons.mpr ⟨fun q hq => of_decide_eq_true (List.mem_filter.mp hq).2, h.filter _⟩, fun a ha b hb => ?_⟩
  have z := of_decide_eq_true (List.mem_filter.mp ha).2
  rcases List.mem_cons.mp hb with rfl | hb
  · exact z
  · have := of_decide_eq_true (List.mem_filter.mp hb).2
    omega
theorem insP_len2 {P : List (Int × Int)} {k v : Int} (h : P.Pairwise fun a b => a.1 < b.1) : P.length ≤ (insP P k v).length ∧ (insP P k v).length ≤ P.length + 1 := by
  have e : ∀ P : List (Int × Int), P.Pairwise (fun a b => a.1 < b.1) → P.length ≤ (P.filter fun q => decide (q.1 < k)).length + (P.filter fun q => decide (k < q.1)).length + 1 ∧ (P.filter fun q => decide (q.1 < k)).length + (P.filter fun q => decide (k < q.1)).length ≤ P.length := by
    intro P
    induction P with
    | nil => intro _; exact ⟨Nat.zero_le _, Nat.le_refl _⟩
    | cons a P ih =>
      intro h
      obtain ⟨h1, h2⟩ := List.pairwise_cons.mp h
      have ih := ih h2
      rw [List.filter_cons, List.filter_cons, List.length_cons]
      by_cases c1 : a.1 < k
      · rw [if_pos (decide_eq_true c1), if_neg (by simp only [decide_eq_true_eq]; omega), List.length_cons]
        omega
      · by_cases c2 : k < a.1
        · rw [if_neg (by simp only [decide_eq_true_eq]; omega), if_pos (decide_eq_true c2), List.length_cons]
          omega
        · have ek : a.1 = k := by omega
          have e1 : P.filter (fun q => decide (k < q.1)) = P := List.filter_eq_self.mpr fun q hq => decide_eq_true (by have := h1 q hq; omega)
          rw [if_neg (by simp only [decide_eq_true_eq]; omega), if_neg (by simp only [decide_eq_true_eq]; omega), e1]
          have := List.length_filter_le (fun q : Int × Int => decide (q.1 < k)) P
          have e2 : P.filter (fun q => decide (q.1 < k)) = [] := List.filter_eq_nil_iff.mpr fun q hq => by
            have := h1 q hq
            simp only [decide_eq_true_eq]
            omega
          rw [e2]
          simp only [List.length_nil]
          omega
  have z := e P h
  unfold insP
  rw [List.length_append, List.length_cons]
  omega
/-! chains of leaves -/
def Chain (D : List (Int × Pg)) : List Int → Int → Prop
  | [], _ => True
  | n :: L, nxt => (∃ ps, lkp D n = some (.leaf ps ((L.head?).getD nxt))) ∧ Chain D L nxt
theorem Chain.app {D : List (Int × Pg)} : ∀ {A B : List Int} {nxt : Int}, Chain D (A ++ B) nxt ↔ Chain D A ((B.head?).getD nxt) ∧ Chain D B nxt
  | [], B, nxt => ⟨fun h => ⟨True.intro, h⟩, fun h => h.2⟩
  | [a], B, nxt => by
    show ((∃ ps, lkp D a = some (.leaf ps ((B.head?).getD nxt))) ∧ Chain D B nxt) ↔ ((∃ ps, lkp D a = some (.leaf ps ((([] : List Int).head?).getD ((B.head?).getD nxt)))) ∧ True) ∧ _
    exact ⟨fun h => ⟨⟨h.1, True.intro⟩, h.2⟩, fun h => ⟨h.1.1, h.2⟩⟩
  | a :: b :: A, B, nxt => by
    have ih := Chain.app (D := D) (A := b :: A) (B := B) (nxt := nxt)
    constructor
    · intro h
      have z := ih.mp h.2
      exact ⟨⟨h.1, z.1⟩, z.2⟩
    · intro h
      exact ⟨h.1.1, ih.mpr ⟨h.1.2, h.2⟩⟩
theorem Chain.congr {D D' : List (Int × Pg)} : ∀ {A : List Int} {nxt : Int}, (∀ n ∈ A, lkp D' n = lkp D n) → Chain D A nxt → Chain D' A nxt
  | [], _, _, _ => True.intro
  | a :: A, nxt, e, ⟨⟨ps, h1⟩, h2⟩ => ⟨⟨ps, by rw [e a (List.mem_cons_self ..)]; exact h1⟩, Chain.congr (fun n hn => e n (List.mem_cons_of_mem _ hn)) h2⟩
theorem chain_of {D : List (Int × Pg)} : ∀ {L : List Int}, NextOk D L L.length → Chain D L 0
  | [], _ => True.intro
  | n :: L, h => by
    refine ⟨?_, chain_of fun j n' hj hn => ?_⟩
    · obtain ⟨ps, e⟩ := h 0 n (by simp) rfl
      refine ⟨ps, e.trans ?_⟩
      cases L <;> rfl
    · exact h (j + 1) n' (by simp only [List.length_cons]; omega) hn
theorem next_of {D : List (Int × Pg)} : ∀ {L : List Int}, Chain D L 0 → NextOk D L L.length
  | [], _, j, n, hj, hn => by simp at hn
  | m :: L, ⟨⟨ps, h1⟩, h2⟩, 0, n, hj, hn => by
    cases hn
    refine ⟨ps, h1.trans ?_⟩
    cases L <;> rfl
  | m :: L, ⟨h1, h2⟩, j + 1, n, hj, hn => next_of h2 j n (by simp only [List.length_cons] at hj; omega) hn
/-! free numbers -/
def FreeK (ks : List Int) (n : Int) : Prop := 1 ≤ n ∧ n ∉ ks ∧ ∀ m, 1 ≤ m → m < n → m ∈ ks
def Frees : List Int → List Int → Prop
  | _, [] => True
  | ks, f :: r => FreeK ks f ∧ Frees (ks ++ [f]) r
theorem Frees.app : ∀ {a ks b : List Int}, Frees ks (a ++ b) ↔ Frees ks a ∧ Frees (ks ++ a) b
  | [], ks, b => by
    rw [List.append_nil]
    exact ⟨fun h => ⟨True.intro, h⟩, fun h => h.2⟩
  | f :: a, ks, b => by
    have ih := Frees.app (a := a) (ks := ks ++ [f]) (b := b)
    rw [List.append_assoc] at ih
    exact ⟨fun h => ⟨⟨h.1, (ih.mp h.2).1⟩, (ih.mp h.2).2⟩, fun h => ⟨h.1.1, ih.mpr ⟨h.1.2, h.2⟩⟩⟩
theorem mem_keys {D : List (Int × Pg)} {n : Int} : n ∈ D.map (·.1) ↔ lkp D n ≠ none := by
  constructor
  · intro h e
    obtain ⟨q, hq, e2⟩ := List.mem_map.mp h
    exact lkp_ne e q hq e2
  · intro h
    cases c : lkp D n with
    | none => exact (h c).elim
    | some g => exact List.mem_map.mpr ⟨(n, g), lkp_mem c, rfl⟩
theorem freeK_of {D : List (Int × Pg)} {n : Int} (h : IsFree D n) : FreeK (D.map (·.1)) n := by
  refine ⟨h.1, fun m => (mem_keys.mp m) h.2.1, fun m m1 m2 => mem_keys.mpr (h.2.2 m m1 m2)⟩
theorem free_exists (D : List (Int × Pg)) : IsFree D (freeN D) := by
  have hB : ∃ B : Int, 0 ≤ B ∧ KeysLe D B := by
    induction D with
    | nil => exact ⟨0, Int.le_refl 0, fun q hq => nomatch hq⟩
    | cons q D ih =>
      obtain ⟨B, h0, h1⟩ := ih
      refine ⟨max B q.1, by omega, fun p hp => ?_⟩
      rcases List.mem_cons.mp hp with rfl | hp
      · omega
      · have := h1 p hp
        omega
  obtain ⟨B, h0, h1⟩ := hB
  exact free_is h0 h1
/-! pages of a tree by number -/
theorem Laid.on {D S : List (Int × Pg)} : ∀ {l : Nat} {t : Tr l}, (∀ n ∈ nums l t, lkp S n = lkp D n) → Laid D l t → Laid S l t
  | 0, t, e, ⟨nx, h⟩ => ⟨nx, (e _ (List.mem_singleton.mpr rfl)).trans h⟩
  | l + 1, t, e, ⟨h, g⟩ => ⟨(e _ (List.mem_cons_self ..)).trans h, fun k hk => Laid.on (fun n hn => e n (List.mem_cons_of_mem _ (List.mem_flatMap.mpr ⟨k, hk, hn⟩))) (g k hk)⟩
theorem laid_mem {D : List (Int × Pg)} : ∀ {l : Nat} {t : Tr l}, Laid D l t → ∀ n ∈ nums l t, n ∈ D.map (·.1)
  | 0, t, ⟨nx, h⟩, n, hn => by
    obtain rfl := List.mem_singleton.mp hn
    exact mem_keys.mpr (by rw [h]; exact nofun)
  | l + 1, t, ⟨h, g⟩, n, hn => by
    rcases List.mem_cons.mp hn with rfl | hn
    · exact mem_keys.mpr (by rw [h]; exact nofun)
    · obtain ⟨k, hk, hn⟩ := List.mem_flatMap.mp hn
      exact laid_mem (g k hk) n hn
theorem num_mem : ∀ {l : Nat} {t : Tr l}, num l t ∈ nums l t
  | 0, _ => List.mem_singleton.mpr rfl
  | _ + 1, _ => List.mem_cons_self ..
theorem leaf_mem {k : Int} : ∀ {l : Nat} {t : Tr l} {u : Tr 0}, leafOf l t k = some u → num 0 u ∈ nums l t
  | 0, t, u, h => by cases h; exact num_mem
  | l + 1, t, u, h => by
    unfold leafOf at h
    cases c : t.kids[placeOf t.keys k]? with
    | none => rw [c] at h; cases h
    | some x =>
      rw [c] at h
      exact List.mem_cons_of_mem _ (List.mem_flatMap.mpr ⟨x, List.mem_of_getElem? c, leaf_mem h⟩)
end K29

namespace K29
open PySem PySem.Spec PyProof.Rows L2 RZ HX TR RP
/-- what becomes of a tree below when a pair is put: one tree, or two with a key between -/
structure PSub (m : Nat) (D0 D1 : List (Int × Pg)) (x : Tr m) (ys : List (Tr m)) (ks new : List Int) (key value lo hi : Int) : Prop where
  head : (ys.map (num m)).head? = some (num m x)
  laid : ∀ y ∈ ys, Laid D1 m y
  kb : KBs (KeyB m) lo ks ys hi
  ok : ∀ y ∈ ys, KeyOk m y
  fprs : ys.flatMap (prs m) = insP (prs m x) key value
  fnums : (ys.flatMap (nums m)).Perm (nums m x ++ new)
  chain : ∀ nxt, Chain D0 (lvs m x) nxt → Chain D1 (ys.flatMap (lvs m)) nxt
  hd : (ys.flatMap (lvs m)).head? = (lvs m x).head?
  keysD : D1.map (·.1) = D0.map (·.1) ++ new
  frees : Frees (D0.map (·.1)) new
  frame : ∀ n, n ∈ D0.map (·.1) → n ∉ nums m x → lkp D1 n = lkp D0 n
/-- parted where it has too many parts -/
def Over (room half : Nat) (D : List (Int × Pg)) (root n k new : Int) (D1 : List (Int × Pg)) (L : List Int) : Prop :=
  (L = [n] → upD room half D root L = (D1 ++ [(freeN D1, .node [k] [n, new])], freeN D1)) ∧
  ∀ e r ge, L = n :: e :: r → lkp D1 e = some ge → upD room half D root L = upD room half (setp D1 e (addK n k new ge)) root (e :: r)
theorem over_of {room half : Nat} {D : List (Int × Pg)} {root n : Int} {g : Pg} (hg : lkp D n = some g) (h : ¬ Pg.parts g ≤ room) (L : List Int) : Over room half D root n (part1 half D n g).2.1 (part1 half D n g).2.2 (part1 half D n g).1 L := by
  refine ⟨fun e => ?_, fun e r ge eL he => ?_⟩
  · subst e
    exact upD_top hg h
  · subst eL
    exact upD_up hg h he
theorem part1_new {half : Nat} {D : List (Int × Pg)} {n : Int} {g : Pg} : lkp (part1 half D n g).1 (freeN D) = some (cutPg (Pg.parts g - half) (freeN D) g).2.2 := by
  unfold part1
  dsimp only
  refine lkp_new ?_
  have z := (free_exists D).2.1
  have e : freeN D ∉ (setp D n (cutPg (Pg.parts g - half) (freeN D) g).1).map (·.1) := by
    rw [setp_keys]
    exact fun m => (mem_keys.mp m) z
  cases c : lkp (setp D n (cutPg (Pg.parts g - half) (freeN D) g).1) (freeN D) with
  | none => rfl
  | some y => exact (e (mem_keys.mpr (by rw [c]; exact nofun))).elim
theorem part1_keysD {half : Nat} {D : List (Int × Pg)} {n : Int} {g : Pg} : (part1 half D n g).1.map (·.1) = D.map (·.1) ++ [freeN D] := by
  unfold part1
  dsimp only
  rw [List.map_append, setp_keys]
  rfl
theorem KeyOk.of_kb {room l : Nat} (hr : 3 ≤ room) {n : Int} {ks : List Int} {kids : List (Tr l)} {lo hi : Int} (h : KBs (KeyB l) lo ks kids hi) (h0 : 0 ≤ lo) (h1 : hi ≤ 1000000001) (wf : ∀ k ∈ kids, WfSh room l false (shp l k)) (ok : ∀ k ∈ kids, KeyOk l k) : KeyOk (l + 1) (ndT n ks kids) := by
  obtain ⟨_, a, b⟩ := KBs.lt (R := KeyB l) h fun x hx a b hR => keyB_lt hr hR (wf x hx)
  refine ⟨b, fun k hk => ?_, KBs.len h, ok⟩
  have := a k hk
  omega
/-- one tree with perhaps one part too many: it stays, or is parted -/
theorem finish {room : Nat} (r3 : 3 ≤ room) (r8 : room ≤ 8) {D0 D2 : List (Int × Pg)} {root key value lo hi : Int} {new : List Int} : ∀ {m : Nat} {x X : Tr m}, PSub m D0 D2 x [X] [] new key value lo hi → (nums m x ++ new).Nodup → 0 ≤ lo → hi ≤ 1000000001 →
    (prs m X).Pairwise (fun a b => a.1 < b.1) → ∀ (tp : Bool), (match m, X with | 0, X => loS room 0 tp ≤ X.ps.length ∧ X.ps.length ≤ room + 1 | l + 1, X => loS room (l + 1) tp ≤ X.kids.length ∧ X.kids.length ≤ room + 1 ∧ ∀ k ∈ X.kids, WfSh room l false (shp l k)) → ∀ rest : List Int,
    (∃ D1 x' new', upD room ((room + 1) / 2) D2 root (num m X :: rest) = (D1, root) ∧ PSub m D0 D1 x [x'] [] new' key value lo hi ∧ ∀ tp', (tp' = false → tp = false) → WfSh room m tp' (shp m x')) ∨
    (∃ D1 x1 k y new', Over room ((room + 1) / 2) D2 root (num m X) k (num m y) D1 (num m X :: rest) ∧ PSub m D0 D1 x [x1, y] [k] new' key value lo hi ∧ WfSh room m false (shp m x1) ∧ WfSh room m false (shp m y)) := by
  intro m x X S nd h0 h1 hri tp hsz rest
  have hX : num m X = num m x := by
    have z := S.head
    simpa using z
  have lX := S.laid X (List.mem_singleton.mpr rfl)
  have oX := S.ok X (List.mem_singleton.mpr rfl)
  have kX : KeyB m X lo hi := S.kb
  have pX : prs m X = insP (prs m x) key value := by
    have z := S.fprs
    simpa using z
  have nX : (nums m X).Perm (nums m x ++ new) := by
    have z := S.fnums
    simpa using z
  have ndX : (nums m X).Nodup := nX.nodup_iff.mpr nd
  have fr := free_exists D2
  have frk := freeK_of fr
  rw [S.keysD] at frk
  have frees' : Frees (D0.map (·.1)) (new ++ [freeN D2]) := Frees.app.mpr ⟨S.frees, frk, True.intro⟩
  have fnot : freeN D2 ∉ nums m X := fun z => (mem_keys.mp (laid_mem lX _ z)) fr.2.1
  cases m with
  | zero =>
    obtain ⟨nx, hk⟩ := lX
    by_cases c : X.ps.length ≤ room
    · refine .inl ⟨D2, X, new, upD_stay hk c rest, S, fun tp' ht => ⟨?_, c⟩⟩
      have z := hsz.1
      cases tp' with
      | true => exact Nat.zero_le _
      | false =>
        rw [ht rfl] at z
        exact z
    · have hl : X.ps.length = room + 1 := by have := hsz.2; omega
      have hcut : X.ps.length - (room + 1) / 2 < X.ps.length := by omega
      obtain ⟨cut, hcu⟩ : ∃ cut, cut = X.ps.length - (room + 1) / 2 := ⟨_, rfl⟩
      have hov := over_of (half := (room + 1) / 2) (root := root) hk c (num 0 X :: rest)
      have e2 : (part1 ((room + 1) / 2) D2 (num 0 X) (.leaf X.ps nx)).2.1 = (X.ps.getD cut (0, 0)).1 := by rw [hcu]; rfl
      have e3 : (part1 ((room + 1) / 2) D2 (num 0 X) (.leaf X.ps nx)).2.2 = freeN D2 := rfl
      have self := part1_self (half := (room + 1) / 2) hk
      have hnew := part1_new (half := (room + 1) / 2) (D := D2) (n := num 0 X) (g := .leaf X.ps nx)
      have hkeys := part1_keysD (half := (room + 1) / 2) (D := D2) (n := num 0 X) (g := .leaf X.ps nx)
      rw [e2, e3] at hov
      have ecut : Pg.parts (.leaf X.ps nx) - (room + 1) / 2 = cut := hcu.symm
      rw [ecut] at self hnew
      obtain ⟨q, hq⟩ : ∃ q, X.ps[cut]? = some q := ⟨X.ps[cut]'(by omega), List.getElem?_eq_getElem (by omega)⟩
      have hk0 : (X.ps.getD cut (0, 0)).1 = q.1 := by rw [List.getD_eq_getElem?_getD, hq]; rfl
      rw [hk0] at hov
      have ed : X.ps.drop cut = q :: X.ps.drop (cut + 1) := by
        obtain ⟨h1, h2⟩ := List.getElem?_eq_some_iff.mp hq
        rw [← h2]
        exact List.drop_eq_getElem_cons h1
      have hrX : X.ps.Pairwise (fun a b => a.1 < b.1) := hri
      have hsp : (X.ps.take cut ++ X.ps.drop cut).Pairwise (fun a b => a.1 < b.1) := by rw [List.take_append_drop]; exact hrX
      refine .inr ⟨_, lfT (num 0 x) (X.ps.take cut), q.1, lfT (freeN D2) (X.ps.drop cut), new ++ [freeN D2], hov, ?_, ⟨?_, ?_⟩, ⟨?_, ?_⟩⟩
      · refine ⟨rfl, fun y hy => ?_, ⟨fun p hp => ?_, fun p hp => ?_⟩, fun y _ => ?_, ?_, ?_, fun nxt ch => ?_, ?_, ?_, frees', fun n hn hn2 => ?_⟩
        · have e : y = lfT (num 0 x) (X.ps.take cut) ∨ y = lfT (freeN D2) (X.ps.drop cut) := by simpa using hy
          rcases e with rfl | rfl
          · exact ⟨freeN D2, by rw [← hX]; exact self⟩
          · exact ⟨nx, hnew⟩
        · have a := kX p (List.mem_of_mem_take hp)
          refine ⟨a.1, (List.pairwise_append.mp hsp).2.2 p hp q (by rw [ed]; exact List.mem_cons_self ..)⟩
        · have a := kX p (List.mem_of_mem_drop hp)
          refine ⟨?_, a.2⟩
          have hp' : p ∈ X.ps.drop cut := hp
          rw [ed] at hp'
          rcases List.mem_cons.mp hp' with rfl | hp'
          · exact Int.le_refl _
          · have z := (List.pairwise_append.mp hsp).2.1
            rw [ed] at z
            exact Int.le_of_lt ((List.pairwise_cons.mp z).1 p hp')
        · exact True.intro
        · show (X.ps.take cut) ++ ((X.ps.drop cut) ++ []) = _
          rw [List.append_nil, List.take_append_drop]
          exact pX
        · show ([num 0 x] ++ ([freeN D2] ++ [])).Perm _
          rw [← hX, List.append_nil, ← List.append_assoc]
          exact List.Perm.append_right _ nX
        · have z := S.chain nxt ch
          have z2 : Chain D2 [num 0 X] nxt := z
          obtain ⟨⟨ps', h'⟩, _⟩ := z2
          have enx : nx = nxt := by
            rw [hk] at h'
            cases h'
            rfl
          refine ⟨⟨X.ps.take cut, ?_⟩, ⟨X.ps.drop cut, ?_⟩, True.intro⟩
          · show lkp _ (num 0 x) = some (.leaf (X.ps.take cut) (freeN D2))
            rw [← hX]
            exact self
          · show lkp _ (freeN D2) = some (.leaf (X.ps.drop cut) nxt)
            rw [← enx]
            exact hnew
        · rfl
        · rw [hkeys, S.keysD, List.append_assoc]
        · have hnX : n ≠ num 0 X := fun z => hn2 (by rw [z, hX]; exact num_mem)
          have hn3 : lkp D2 n ≠ none := mem_keys.mp (by rw [S.keysD]; exact List.mem_append_left _ hn)
          rw [part1_lkp hn3 hnX]
          exact S.frame n hn hn2
      · show (room + 1) / 2 ≤ (X.ps.take cut).length
        rw [List.length_take]
        omega
      · show (X.ps.take cut).length ≤ room
        rw [List.length_take]
        omega
      · show (room + 1) / 2 ≤ (X.ps.drop cut).length
        rw [List.length_drop]
        omega
      · show (X.ps.drop cut).length ≤ room
        rw [List.length_drop]
        omega
  | succ l =>
    obtain ⟨hk, hkids⟩ := lX
    obtain ⟨z1, z2, z3⟩ := hsz
    have hparts : Pg.parts (.node X.keys (X.kids.map (num l))) = X.kids.length := by show (X.kids.map (num l)).length = _; rw [List.length_map]
    by_cases c : X.kids.length ≤ room
    · refine .inl ⟨D2, X, new, upD_stay hk (by rw [hparts]; exact c) rest, S, fun tp' ht => ⟨?_, ?_, ?_⟩⟩
      · show loS room (l + 1) tp' ≤ (X.kids.map (shp l)).length
        rw [List.length_map]
        cases tp' with
        | true =>
          cases tp with
          | true => exact z1
          | false =>
            have e1 : loS room (l + 1) true = 2 := rfl
            have e2 : loS room (l + 1) false = (room + 1) / 2 := rfl
            omega
        | false =>
          rw [ht rfl] at z1
          exact z1
      · show (X.kids.map (shp l)).length ≤ room
        rw [List.length_map]
        exact c
      · intro k hk2
        obtain ⟨y, hy, rfl⟩ := List.mem_map.mp hk2
        exact z3 y hy
    · have hl : X.kids.length = room + 1 := by omega
      obtain ⟨cut, hcu⟩ : ∃ cut, cut = X.kids.length - (room + 1) / 2 := ⟨_, rfl⟩
      have hov := over_of (half := (room + 1) / 2) (root := root) hk (by rw [hparts]; exact c) (num (l + 1) X :: rest)
      have ecut : Pg.parts (.node X.keys (X.kids.map (num l))) - (room + 1) / 2 = cut := by rw [hparts, hcu]
      have kbX : KBs (KeyB l) lo X.keys X.kids hi := kX
      obtain ⟨k, hkk, kb1, kb2⟩ := KBs.cut kbX (n := cut - 1) (by omega)
      rw [show cut - 1 + 1 = cut by omega] at kb1 kb2
      have e2 : (part1 ((room + 1) / 2) D2 (num (l + 1) X) (.node X.keys (X.kids.map (num l)))).2.1 = k := by
        show X.keys.getD (Pg.parts (.node X.keys (X.kids.map (num l))) - (room + 1) / 2 - 1) 0 = k
        rw [ecut, List.getD_eq_getElem?_getD, hkk]
        rfl
      have e3 : (part1 ((room + 1) / 2) D2 (num (l + 1) X) (.node X.keys (X.kids.map (num l)))).2.2 = freeN D2 := rfl
      have self := part1_self (half := (room + 1) / 2) hk
      have hnew := part1_new (half := (room + 1) / 2) (D := D2) (n := num (l + 1) X) (g := .node X.keys (X.kids.map (num l)))
      have hkeys := part1_keysD (half := (room + 1) / 2) (D := D2) (n := num (l + 1) X) (g := .node X.keys (X.kids.map (num l)))
      rw [e2, e3] at hov
      rw [ecut] at self hnew
      have self' : lkp (part1 ((room + 1) / 2) D2 (num (l + 1) X) (.node X.keys (X.kids.map (num l)))).1 (num (l + 1) x) = some (.node (X.keys.take (cut - 1)) ((X.kids.take cut).map (num l))) := by
        rw [← hX, self, List.map_take]
        rfl
      have hnew' : lkp (part1 ((room + 1) / 2) D2 (num (l + 1) X) (.node X.keys (X.kids.map (num l)))).1 (freeN D2) = some (.node (X.keys.drop cut) ((X.kids.drop cut).map (num l))) := by
        rw [hnew, List.map_drop]
        rfl
      have hnumX : num (l + 1) X ∉ X.kids.flatMap (nums l) := (List.nodup_cons.mp ndX).1
      have laidK : ∀ y ∈ X.kids, Laid (part1 ((room + 1) / 2) D2 (num (l + 1) X) (.node X.keys (X.kids.map (num l)))).1 l y := fun y hy => by
        refine Laid.on (fun n hn => ?_) (hkids y hy)
        have hn3 : lkp D2 n ≠ none := mem_keys.mp (laid_mem (hkids y hy) n hn)
        exact part1_lkp hn3 fun z => hnumX (List.mem_flatMap.mpr ⟨y, hy, z ▸ hn⟩)
      have wf1 : ∀ y ∈ X.kids.take cut, WfSh room l false (shp l y) := fun y hy => z3 y (List.mem_of_mem_take hy)
      have wf2 : ∀ y ∈ X.kids.drop cut, WfSh room l false (shp l y) := fun y hy => z3 y (List.mem_of_mem_drop hy)
      have lt1 := (KBs.lt (R := KeyB l) kb1 fun y hy a b hR => keyB_lt r3 hR (wf1 y hy)).1
      have lt2 := (KBs.lt (R := KeyB l) kb2 fun y hy a b hR => keyB_lt r3 hR (wf2 y hy)).1
      refine .inr ⟨_, ndT (num (l + 1) x) (X.keys.take (cut - 1)) (X.kids.take cut), k, ndT (freeN D2) (X.keys.drop cut) (X.kids.drop cut), new ++ [freeN D2], hov, ?_, ⟨?_, ?_, fun y hy => ?_⟩, ⟨?_, ?_, fun y hy => ?_⟩⟩
      · refine ⟨rfl, fun y hy => ?_, ⟨kb1, kb2⟩, fun y hy => ?_, ?_, ?_, fun nxt ch => ?_, ?_, ?_, frees', fun n hn hn2 => ?_⟩
        · have e : y = ndT (num (l + 1) x) (X.keys.take (cut - 1)) (X.kids.take cut) ∨ y = ndT (freeN D2) (X.keys.drop cut) (X.kids.drop cut) := by simpa using hy
          rcases e with rfl | rfl
          · exact ⟨self', fun y hy => laidK y (List.mem_of_mem_take hy)⟩
          · exact ⟨hnew', fun y hy => laidK y (List.mem_of_mem_drop hy)⟩
        · have e : y = ndT (num (l + 1) x) (X.keys.take (cut - 1)) (X.kids.take cut) ∨ y = ndT (freeN D2) (X.keys.drop cut) (X.kids.drop cut) := by simpa using hy
          rcases e with rfl | rfl
          · exact KeyOk.of_kb r3 kb1 h0 (by omega) wf1 fun y hy => oX.2.2.2 y (List.mem_of_mem_take hy)
          · exact KeyOk.of_kb r3 kb2 (by omega) h1 wf2 fun y hy => oX.2.2.2 y (List.mem_of_mem_drop hy)
        · show (X.kids.take cut).flatMap (prs l) ++ ((X.kids.drop cut).flatMap (prs l) ++ []) = _
          rw [List.append_nil, ← List.flatMap_append, List.take_append_drop]
          exact pX
        · show ((num (l + 1) x :: (X.kids.take cut).flatMap (nums l)) ++ ((freeN D2 :: (X.kids.drop cut).flatMap (nums l)) ++ [])).Perm _
          rw [List.append_nil, ← List.append_assoc]
          have e : nums (l + 1) X = num (l + 1) x :: ((X.kids.take cut).flatMap (nums l) ++ (X.kids.drop cut).flatMap (nums l)) := by
            rw [← List.flatMap_append, List.take_append_drop, ← hX]
            rfl
          refine List.Perm.trans ?_ (List.Perm.append_right [freeN D2] nX)
          rw [e, List.cons_append, List.cons_append]
          refine List.Perm.cons _ ?_
          rw [List.append_assoc]
          exact List.Perm.append_left _ (List.perm_append_singleton _ _).symm
        · have z := S.chain nxt ch
          have e : [X].flatMap (lvs (l + 1)) = [ndT (num (l + 1) x) (X.keys.take (cut - 1)) (X.kids.take cut), ndT (freeN D2) (X.keys.drop cut) (X.kids.drop cut)].flatMap (lvs (l + 1)) := by
            show X.kids.flatMap (lvs l) ++ [] = (X.kids.take cut).flatMap (lvs l) ++ ((X.kids.drop cut).flatMap (lvs l) ++ [])
            rw [List.append_nil, List.append_nil, ← List.flatMap_append, List.take_append_drop]
          rw [← e]
          refine Chain.congr (fun n hn => ?_) z
          have hn' : n ∈ X.kids.flatMap (lvs l) := by
            have z : n ∈ X.kids.flatMap (lvs l) ++ [] := hn
            rwa [List.append_nil] at z
          obtain ⟨y, hy, hny⟩ := List.mem_flatMap.mp hn'
          have hny2 := lvs_sub.subset hny
          have hn3 : lkp D2 n ≠ none := mem_keys.mp (laid_mem (hkids y hy) n hny2)
          exact part1_lkp hn3 fun z => hnumX (List.mem_flatMap.mpr ⟨y, hy, z ▸ hny2⟩)
        · have e : [ndT (num (l + 1) x) (X.keys.take (cut - 1)) (X.kids.take cut), ndT (freeN D2) (X.keys.drop cut) (X.kids.drop cut)].flatMap (lvs (l + 1)) = [X].flatMap (lvs (l + 1)) := by
            show (X.kids.take cut).flatMap (lvs l) ++ ((X.kids.drop cut).flatMap (lvs l) ++ []) = X.kids.flatMap (lvs l) ++ []
            rw [List.append_nil, List.append_nil, ← List.flatMap_append, List.take_append_drop]
          rw [e]
          exact S.hd
        · rw [hkeys, S.keysD, List.append_assoc]
        · have hnX : n ≠ num (l + 1) X := fun z => hn2 (by rw [z, hX]; exact num_mem)
          have hn3 : lkp D2 n ≠ none := mem_keys.mp (by rw [S.keysD]; exact List.mem_append_left _ hn)
          rw [part1_lkp hn3 hnX]
          exact S.frame n hn hn2
      · show (room + 1) / 2 ≤ ((X.kids.take cut).map (shp l)).length
        rw [List.length_map, List.length_take]
        omega
      · show ((X.kids.take cut).map (shp l)).length ≤ room
        rw [List.length_map, List.length_take]
        omega
      · obtain ⟨z, hz, rfl⟩ := List.mem_map.mp hy
        exact wf1 z hz
      · show (room + 1) / 2 ≤ ((X.kids.drop cut).map (shp l)).length
        rw [List.length_map, List.length_drop]
        omega
      · show ((X.kids.drop cut).map (shp l)).length ≤ room
        rw [List.length_map, List.length_drop]
        omega
      · obtain ⟨z, hz, rfl⟩ := List.mem_map.mp hy
        exact wf2 z hz
end K29

namespace K29
open PySem PySem.Spec PyProof.Rows L2 RZ HX TR RP
theorem set_split {α : Type} : ∀ {xs : List α} {j : Nat} {c : α}, xs[j]? = some c → xs = xs.take j ++ c :: xs.drop (j + 1)
  | [], j, c, h => by simp at h
  | a :: xs, 0, c, h => by cases h; rfl
  | a :: xs, j + 1, c, h => by
    show a :: xs = a :: (xs.take j ++ c :: xs.drop (j + 1))
    rw [← set_split (xs := xs) (j := j) (c := c) h]
theorem idx_of {l : Nat} {kids : List (Tr l)} {j : Nat} {c : Tr l} (nd : (kids.flatMap (nums l)).Nodup) (h : kids[j]? = some c) : (kids.map (num l)).idxOf (num l c) = j := by
  have nd2 : (kids.map (num l)).Nodup := by
    refine nd.sublist ?_
    have e : ∀ ks : List (Tr l), (ks.map (num l)).Sublist (ks.flatMap (nums l)) := fun ks => by
      induction ks with
      | nil => exact List.Sublist.slnil
      | cons k ks ih =>
        rw [List.map_cons, List.flatMap_cons]
        have z : nums l k = num l k :: (nums l k).tail := by cases l <;> rfl
        rw [z, List.cons_append]
        exact List.Sublist.cons₂ _ (ih.trans (List.sublist_append_right _ _))
    exact e kids
  have hj : (kids.map (num l))[j]? = some (num l c) := by rw [List.getElem?_map, h]; rfl
  have hm : num l c ∈ kids.map (num l) := List.mem_of_getElem? hj
  have hi := List.idxOf_lt_length_of_mem hm
  exact nodup_at nd2 (by rw [List.getElem?_eq_getElem hi]; exact congrArg some (List.getElem_idxOf hi)) hj
/-- a pair is put below: from the leaf up -/
theorem climb {room : Nat} (r3 : 3 ≤ room) (r8 : room ≤ 8) {D0 : List (Int × Pg)} {root key value : Int} {u : Tr 0} {nx : Int} (hk0 : lkp D0 (num 0 u) = some (.leaf u.ps nx)) : ∀ {m : Nat} {x : Tr m} {lo hi : Int} {tp : Bool}, Laid D0 m x → (nums m x).Nodup → leafOf m x key = some u → WfSh room m tp (shp m x) → KeyOk m x → KeyB m x lo hi →
    0 ≤ lo → hi ≤ 1000000001 → lo ≤ key → key < hi → (prs m x).Pairwise (fun a b => a.1 < b.1) → ∀ rest : List Int, (∀ e r, rest = e :: r → (∃ ge, lkp D0 e = some ge) ∧ e ∉ nums m x) →
    (∃ D1 x' new, upD room ((room + 1) / 2) (setp D0 (num 0 u) (.leaf (insP u.ps key value) nx)) root ((wayOf m x key).reverse ++ rest) = (D1, root) ∧ PSub m D0 D1 x [x'] [] new key value lo hi ∧ ∀ tp', (tp' = false → tp = false) → WfSh room m tp' (shp m x')) ∨
    (∃ D1 x1 k y new, (rest = [] → upD room ((room + 1) / 2) (setp D0 (num 0 u) (.leaf (insP u.ps key value) nx)) root ((wayOf m x key).reverse ++ rest) = (D1 ++ [(freeN D1, .node [k] [num m x, num m y])], freeN D1)) ∧
      (∀ e r ge, rest = e :: r → lkp D0 e = some ge → upD room ((room + 1) / 2) (setp D0 (num 0 u) (.leaf (insP u.ps key value) nx)) root ((wayOf m x key).reverse ++ rest) = upD room ((room + 1) / 2) (setp D1 e (addK (num m x) k (num m y) ge)) root (e :: r)) ∧
      PSub m D0 D1 x [x1, y] [k] new key value lo hi ∧ WfSh room m false (shp m x1) ∧ WfSh room m false (shp m y))
  | 0, x, lo, hi, tp, hL, nd, hu, hw, hok, hB, h0, h1, l0, l1, hri, rest, hrest => by
    cases hu
    have hpw : u.ps.Pairwise (fun a b => a.1 < b.1) := hri
    have il := insP_len2 (k := key) (v := value) hpw
    have hX : lkp (setp D0 (num 0 u) (.leaf (insP u.ps key value) nx)) (num 0 u) = some (.leaf (insP u.ps key value) nx) := lkp_setp_eq hk0
    have S : PSub 0 D0 (setp D0 (num 0 u) (.leaf (insP u.ps key value) nx)) u [lfT (num 0 u) (insP u.ps key value)] [] [] key value lo hi := by
      refine ⟨rfl, fun y hy => ?_, fun q hq => ?_, fun y _ => ?_, ?_, ?_, fun nxt ch => ?_, rfl, ?_, True.intro, fun n hn hn2 => ?_⟩
      · obtain rfl := List.mem_singleton.mp hy
        exact ⟨nx, hX⟩
      · rcases insP_mem hq with rfl | hq
        · exact ⟨l0, l1⟩
        · exact hB q hq
      · exact True.intro
      · show insP u.ps key value ++ [] = _
        rw [List.append_nil]
        rfl
      · show ([num 0 u] ++ []).Perm ([num 0 u] ++ [])
        exact List.Perm.refl _
      · obtain ⟨⟨ps', h'⟩, _⟩ := ch
        have h'' : lkp D0 (num 0 u) = some (.leaf ps' nxt) := h'
        rw [hk0] at h''
        cases h''
        exact ⟨⟨_, hX⟩, True.intro⟩
      · rw [setp_keys, List.append_nil]
      · exact lkp_setp_ne fun z => hn2 (by rw [z]; exact List.mem_singleton.mpr rfl)
    have eW : (wayOf 0 u key).reverse ++ rest = num 0 (lfT (num 0 u) (insP u.ps key value)) :: rest := rfl
    rw [eW]
    rcases finish r3 r8 (root := root) S (by rw [List.append_nil]; exact nd) h0 h1 (insP_rise hpw) tp (show loS room 0 tp ≤ (insP u.ps key value).length ∧ (insP u.ps key value).length ≤ room + 1 from ⟨Nat.le_trans hw.1 il.1, Nat.le_trans il.2 (Nat.succ_le_succ hw.2)⟩) rest with ⟨D1, x', new', e1, e2, e3⟩ | ⟨D1, x1, k, y, new', e1, e2, e3, e4⟩
    · exact .inl ⟨D1, x', new', e1, e2, e3⟩
    · refine .inr ⟨D1, x1, k, y, new', fun hr => e1.1 (by rw [hr]), fun e r ge hr hge => ?_, e2, e3, e4⟩
      obtain ⟨_, hne⟩ := hrest e r hr
      exact e1.2 e r ge (by rw [hr]) (by rw [e2.frame e (mem_keys.mpr (by rw [hge]; exact nofun)) hne]; exact hge)
  | l + 1, x, lo, hi, tp, hL, nd, hu, hw, hok, hB, h0, h1, l0, l1, hri, rest, hrest => by
    obtain ⟨hLx, hLk⟩ := id hL
    obtain ⟨w1, w2, w3⟩ := id hw
    have w1' : loS room (l + 1) tp ≤ x.kids.length := by
      have z : loS room (l + 1) tp ≤ (x.kids.map (shp l)).length := w1
      rwa [List.length_map] at z
    have w2' : x.kids.length ≤ room := by
      have z : (x.kids.map (shp l)).length ≤ room := w2
      rwa [List.length_map] at z
    have w3' : ∀ y ∈ x.kids, WfSh room l false (shp l y) := fun y hy => w3 _ (List.mem_map_of_mem hy)
    have hK : KBs (KeyB l) lo x.keys x.kids hi := hB
    have hlen := KBs.len hK
    unfold leafOf at hu
    cases hc : x.kids[placeOf x.keys key]? with
    | none => rw [hc] at hu; cases hu
    | some c =>
    rw [hc] at hu
    have hu' : leafOf l c key = some u := hu
    have hcm : c ∈ x.kids := List.mem_of_getElem? hc
    obtain ⟨j, hj⟩ : ∃ j, j = placeOf x.keys key := ⟨_, rfl⟩
    rw [← hj] at hc
    obtain ⟨a, b, ha, hb, hR, hset, hins⟩ := KBs.parts hK hc
    have hsplit := set_split hc
    have hjl : j ≤ x.keys.length := by
      have := (List.getElem?_eq_some_iff.mp hc).1
      omega
    -- bounds of the kid
    have keyslt := KBs.lt (R := KeyB l) hK fun y hy a b hR => keyB_lt r3 hR (w3' y hy)
    have ha1 : a ≤ key := by
      cases j with
      | zero => cases ha; exact l0
      | succ j => exact (place_iff hok.1 (i := j) ha).mp (by omega)
    have hb1 : key < b := by
      rcases Nat.lt_or_ge j x.keys.length with cj | cj
      · rw [List.getElem?_append_left cj] at hb
        have := (place_iff (k := key) hok.1 hb)
        omega
      · have : j = x.keys.length := by omega
        rw [this, List.getElem?_append_right (Nat.le_refl _), Nat.sub_self] at hb
        cases hb
        exact l1
    have ha0 : 0 ≤ a := by
      cases j with
      | zero => cases ha; exact h0
      | succ j => exact (hok.2.1 a (List.mem_of_getElem? ha)).1
    have hbh : b ≤ 1000000001 := by
      rcases Nat.lt_or_ge j x.keys.length with cj | cj
      · rw [List.getElem?_append_left cj] at hb
        have := (hok.2.1 b (List.mem_of_getElem? hb)).2
        omega
      · have : j = x.keys.length := by omega
        rw [this, List.getElem?_append_right (Nat.le_refl _), Nat.sub_self] at hb
        cases hb
        exact h1
    have hri' : (x.kids.flatMap (prs l)).Pairwise (fun a b => a.1 < b.1) := hri
    have nd' : (num (l + 1) x :: x.kids.flatMap (nums l)).Nodup := nd
    obtain ⟨nd1, nd2⟩ := List.nodup_cons.mp nd'
    have ndc : (nums l c).Nodup := nd2.sublist (sub_flat hcm)
    have nxc : num (l + 1) x ∉ nums l c := fun z => nd1 (List.mem_flatMap.mpr ⟨c, hcm, z⟩)
    -- pairs left and right of the kid
    have hP : ∀ q ∈ (x.kids.take j).flatMap (prs l), q.1 < key := fun q hq => by
      obtain ⟨y, hy, hqy⟩ := List.mem_flatMap.mp hq
      obtain ⟨i, hi⟩ := List.getElem?_of_mem hy
      have hij : i < j := by
        have := (List.getElem?_eq_some_iff.mp hi).1
        rw [List.length_take] at this
        omega
      rw [List.getElem?_take_of_lt hij] at hi
      obtain ⟨a', b', ea, eb, hR'⟩ := KBs.at hK hi
      have ym := List.mem_of_getElem? hi
      have al := keyB_all r3 hR' (w3' y ym) (hri'.sublist (sub_flat ym)) q hqy
      rw [List.getElem?_append_left (by omega : i < x.keys.length)] at eb
      have := (place_iff (k := key) hok.1 eb).mp (by omega)
      omega
    have hQ : ∀ q ∈ (x.kids.drop (j + 1)).flatMap (prs l), key < q.1 := fun q hq => by
      obtain ⟨y, hy, hqy⟩ := List.mem_flatMap.mp hq
      obtain ⟨i, hi⟩ := List.getElem?_of_mem hy
      rw [List.getElem?_drop] at hi
      obtain ⟨a', b', ea, eb, hR'⟩ := KBs.at hK hi
      have ym := List.mem_of_getElem? hi
      have al := keyB_all r3 hR' (w3' y ym) (hri'.sublist (sub_flat ym)) q hqy
      have ea' : x.keys[j + i]? = some a' := by
        rw [show j + 1 + i = (j + i) + 1 by omega] at ea
        exact ea
      have := (place_iff (k := key) hok.1 ea')
      have : ¬ a' ≤ key := fun z => by
        have := this.mpr z
        omega
      omega
    have eprs : prs (l + 1) x = (x.kids.take j).flatMap (prs l) ++ prs l c ++ (x.kids.drop (j + 1)).flatMap (prs l) := by
      show x.kids.flatMap (prs l) = _
      conv => lhs; rw [hsplit]
      rw [List.flatMap_append, List.flatMap_cons, List.append_assoc]
    have emid := insP_mid (M := prs l c) (v := value) hP hQ
    rw [← eprs] at emid
    have eW : (wayOf (l + 1) x key).reverse ++ rest = (wayOf l c key).reverse ++ (num (l + 1) x :: rest) := by
      have e : wayOf (l + 1) x key = num (l + 1) x :: wayOf l c key := by
        show num (l + 1) x :: (match x.kids[placeOf x.keys key]? with | some u => wayOf l u key | none => []) = _
        rw [← hj, hc]
      rw [e, List.reverse_cons, List.append_assoc]
      rfl
    rw [eW]
    have ih := climb r3 r8 (root := root) (value := value) hk0 (m := l) (x := c) (lo := a) (hi := b) (tp := false) (hLk c hcm) ndc hu' (w3' c hcm) (hok.2.2.2 c hcm) hR ha0 hbh ha1 hb1 (hri'.sublist (sub_flat hcm)) (num (l + 1) x :: rest) (fun e r he => by cases he; exact ⟨⟨_, hLx⟩, nxc⟩)
    -- kids beside c stay
    have away : ∀ {D1 : List (Int × Pg)}, (∀ n, n ∈ D0.map (·.1) → n ∉ nums l c → lkp D1 n = lkp D0 n) → ∀ i y, i ≠ j → x.kids[i]? = some y → ∀ n ∈ nums l y, lkp D1 n = lkp D0 n := fun {D1} fr i y hij hy n hn => by
      refine fr n (laid_mem (hLk y (List.mem_of_getElem? hy)) n hn) fun hnc => ?_
      have nd5 : ((x.kids.take j).flatMap (nums l) ++ (nums l c ++ (x.kids.drop (j + 1)).flatMap (nums l))).Nodup := by
        have z := nd2
        rw [hsplit, List.flatMap_append, List.flatMap_cons] at z
        exact z
      obtain ⟨n1, n2, n3⟩ := List.nodup_append.mp nd5
      obtain ⟨n4, n5, n6⟩ := List.nodup_append.mp n2
      rcases Nat.lt_or_gt_of_ne hij with c1 | c1
      · have m1 : n ∈ (x.kids.take j).flatMap (nums l) := List.mem_flatMap.mpr ⟨y, List.mem_of_getElem? (i := i) (by rw [List.getElem?_take_of_lt c1]; exact hy), hn⟩
        exact n3 n m1 n (List.mem_append_left _ hnc) rfl
      · have m1 : n ∈ (x.kids.drop (j + 1)).flatMap (nums l) := List.mem_flatMap.mpr ⟨y, List.mem_of_getElem? (i := i - (j + 1)) (by rw [List.getElem?_drop, show j + 1 + (i - (j + 1)) = i by omega]; exact hy), hn⟩
        exact n6 n hnc n m1 rfl
    have atake : ∀ y ∈ x.kids.take j, ∃ i, i ≠ j ∧ x.kids[i]? = some y := fun y hy => by
      obtain ⟨i, hi⟩ := List.getElem?_of_mem hy
      have hij : i < j := by
        have := (List.getElem?_eq_some_iff.mp hi).1
        rw [List.length_take] at this
        omega
      rw [List.getElem?_take_of_lt hij] at hi
      exact ⟨i, by omega, hi⟩
    have adrop : ∀ y ∈ x.kids.drop (j + 1), ∃ i, i ≠ j ∧ x.kids[i]? = some y := fun y hy => by
      obtain ⟨i, hi⟩ := List.getElem?_of_mem hy
      rw [List.getElem?_drop] at hi
      exact ⟨j + 1 + i, by omega, hi⟩
    have eset : ∀ c' : Tr l, x.kids.set j c' = x.kids.take j ++ c' :: x.kids.drop (j + 1) := fun c' => List.set_eq_take_append_cons_drop .. |>.trans (by rw [if_pos (List.getElem?_eq_some_iff.mp hc).1])
    have numsSplit : nums (l + 1) x = num (l + 1) x :: ((x.kids.take j).flatMap (nums l) ++ nums l c ++ (x.kids.drop (j + 1)).flatMap (nums l)) := by
      show num (l + 1) x :: x.kids.flatMap (nums l) = _
      conv => lhs; rw [hsplit]
      rw [List.flatMap_append, List.flatMap_cons, List.append_assoc]
    have lvsSplit : lvs (l + 1) x = (x.kids.take j).flatMap (lvs l) ++ (lvs l c ++ (x.kids.drop (j + 1)).flatMap (lvs l)) := by
      show x.kids.flatMap (lvs l) = _
      conv => lhs; rw [hsplit]
      rw [List.flatMap_append, List.flatMap_cons]
    -- what is made of the subtrees, put into the node
    have build : ∀ (D1 D2 : List (Int × Pg)) (ys : List (Tr l)) (ks new keys2 : List Int), PSub l D0 D1 c ys ks new key value a b → (∀ y ∈ ys, WfSh room l false (shp l y)) → KBs (KeyB l) lo keys2 (x.kids.take j ++ ys ++ x.kids.drop (j + 1)) hi →
        lkp D2 (num (l + 1) x) = some (.node keys2 ((x.kids.take j ++ ys ++ x.kids.drop (j + 1)).map (num l))) → (∀ n, n ≠ num (l + 1) x → lkp D2 n = lkp D1 n) → D2.map (·.1) = D1.map (·.1) →
        PSub (l + 1) D0 D2 x [ndT (num (l + 1) x) keys2 (x.kids.take j ++ ys ++ x.kids.drop (j + 1))] [] new key value lo hi := fun D1 D2 ys ks new keys2 S wy kb2 hpg hD2 hkeys => by
      have newnot : num (l + 1) x ∉ new := fun z => by
        have nd3 : (D0.map (·.1) ++ new).Nodup ∨ True := .inr trivial
        have hf : ∀ (ks new : List Int), Frees ks new → ∀ n ∈ new, n ∉ ks := fun ks new => by
          induction new generalizing ks with
          | nil => intro _ n hn; cases hn
          | cons f r ih =>
            intro h n hn
            rcases List.mem_cons.mp hn with rfl | hn
            · exact h.1.2.1
            · exact fun z => ih (ks ++ [f]) h.2 n hn (List.mem_append_left _ z)
        exact hf _ _ S.frees _ z (mem_keys.mpr (by rw [hLx]; exact nofun))
      have fresh : ∀ y ∈ ys, ∀ n ∈ nums l y, n ≠ num (l + 1) x := fun y hy n hn z => by
        have hm : n ∈ nums l c ++ new := S.fnums.mem_iff.mp (List.mem_flatMap.mpr ⟨y, hy, hn⟩)
        rw [z] at hm
        rcases List.mem_append.mp hm with hm | hm
        · exact nxc hm
        · exact newnot hm
      have laidAll : ∀ y ∈ x.kids.take j ++ ys ++ x.kids.drop (j + 1), Laid D2 l y := fun y hy => by
        have old : ∀ i, i ≠ j → x.kids[i]? = some y → Laid D2 l y := fun i hij hi => by
          refine Laid.on (fun n hn => ?_) (hLk y (List.mem_of_getElem? hi))
          rw [hD2 n fun z => nd1 (List.mem_flatMap.mpr ⟨y, List.mem_of_getElem? hi, z ▸ hn⟩)]
          exact away S.frame i y hij hi n hn
        rcases List.mem_append.mp hy with hy | hy
        · rcases List.mem_append.mp hy with hy | hy
          · obtain ⟨i, hij, hi⟩ := atake y hy
            exact old i hij hi
          · exact Laid.on (fun n hn => hD2 n (fresh y hy n hn)) (S.laid y hy)
        · obtain ⟨i, hij, hi⟩ := adrop y hy
          exact old i hij hi
      have wfAll : ∀ y ∈ x.kids.take j ++ ys ++ x.kids.drop (j + 1), WfSh room l false (shp l y) := fun y hy => by
        rcases List.mem_append.mp hy with hy | hy
        · rcases List.mem_append.mp hy with hy | hy
          · exact w3' y (List.mem_of_mem_take hy)
          · exact wy y hy
        · exact w3' y (List.mem_of_mem_drop hy)
      have okAll : ∀ y ∈ x.kids.take j ++ ys ++ x.kids.drop (j + 1), KeyOk l y := fun y hy => by
        rcases List.mem_append.mp hy with hy | hy
        · rcases List.mem_append.mp hy with hy | hy
          · exact hok.2.2.2 y (List.mem_of_mem_take hy)
          · exact S.ok y hy
        · exact hok.2.2.2 y (List.mem_of_mem_drop hy)
      refine ⟨rfl, fun y hy => ?_, kb2, fun y hy => ?_, ?_, ?_, fun nxt ch => ?_, ?_, ?_, S.frees, fun n hn hn2 => ?_⟩
      · obtain rfl := List.mem_singleton.mp hy
        exact ⟨hpg, laidAll⟩
      · obtain rfl := List.mem_singleton.mp hy
        exact KeyOk.of_kb r3 kb2 h0 h1 wfAll okAll
      · show (x.kids.take j ++ ys ++ x.kids.drop (j + 1)).flatMap (prs l) ++ [] = _
        rw [List.append_nil, List.flatMap_append, List.flatMap_append, S.fprs]
        exact emid.symm
      · show (num (l + 1) x :: (x.kids.take j ++ ys ++ x.kids.drop (j + 1)).flatMap (nums l) ++ []).Perm _
        rw [List.append_nil, numsSplit, List.flatMap_append, List.flatMap_append, List.cons_append]
        refine List.Perm.cons _ ?_
        rw [List.append_assoc, List.append_assoc, List.append_assoc]
        refine List.Perm.append_left _ ?_
        refine (List.Perm.append_right _ S.fnums).trans ?_
        rw [List.append_assoc]
        exact List.Perm.append_left _ List.perm_append_comm
      · rw [lvsSplit] at ch
        have c1 := Chain.app.mp ch
        have c2 := Chain.app.mp c1.2
        have e : [ndT (num (l + 1) x) keys2 (x.kids.take j ++ ys ++ x.kids.drop (j + 1))].flatMap (lvs (l + 1)) = (x.kids.take j).flatMap (lvs l) ++ (ys.flatMap (lvs l) ++ (x.kids.drop (j + 1)).flatMap (lvs l)) := by
          show (x.kids.take j ++ ys ++ x.kids.drop (j + 1)).flatMap (lvs l) ++ [] = _
          rw [List.append_nil, List.flatMap_append, List.flatMap_append, List.append_assoc]
        rw [e]
        have cy := S.chain _ c2.1
        have stay : ∀ zs : List (Tr l), (∀ y ∈ zs, ∃ i, i ≠ j ∧ x.kids[i]? = some y) → ∀ n ∈ zs.flatMap (lvs l), lkp D2 n = lkp D0 n := fun zs hz n hn => by
          obtain ⟨y, hy, hny⟩ := List.mem_flatMap.mp hn
          obtain ⟨i, hij, hi⟩ := hz y hy
          have hny2 := lvs_sub.subset hny
          rw [hD2 n fun z => nd1 (List.mem_flatMap.mpr ⟨y, List.mem_of_getElem? hi, z ▸ hny2⟩)]
          exact away S.frame i y hij hi n hny2
        have cy2 : Chain D2 (ys.flatMap (lvs l)) _ := Chain.congr (fun n hn => by
          obtain ⟨y, hy, hny⟩ := List.mem_flatMap.mp hn
          exact hD2 n (fresh y hy n (lvs_sub.subset hny))) cy
        have cd := Chain.congr (stay _ adrop) c2.2
        have ct := Chain.congr (stay _ atake) c1.1
        have hh : (ys.flatMap (lvs l) ++ (x.kids.drop (j + 1)).flatMap (lvs l)).head? = (lvs l c ++ (x.kids.drop (j + 1)).flatMap (lvs l)).head? := by
          rw [List.head?_append, List.head?_append, S.hd]
        exact Chain.app.mpr ⟨by rw [hh]; exact ct, Chain.app.mpr ⟨cy2, cd⟩⟩
      · have e : [ndT (num (l + 1) x) keys2 (x.kids.take j ++ ys ++ x.kids.drop (j + 1))].flatMap (lvs (l + 1)) = (x.kids.take j).flatMap (lvs l) ++ (ys.flatMap (lvs l) ++ (x.kids.drop (j + 1)).flatMap (lvs l)) := by
          show (x.kids.take j ++ ys ++ x.kids.drop (j + 1)).flatMap (lvs l) ++ [] = _
          rw [List.append_nil, List.flatMap_append, List.flatMap_append, List.append_assoc]
        rw [e, lvsSplit, List.head?_append, List.head?_append, List.head?_append, List.head?_append, S.hd]
      · rw [hkeys, S.keysD]
      · have e1 : n ≠ num (l + 1) x := fun z => hn2 (by rw [z]; exact num_mem)
        rw [hD2 n e1]
        exact S.frame n hn fun z => hn2 (by rw [numsSplit]; exact List.mem_cons_of_mem _ (List.mem_append_left _ (List.mem_append_right _ z)))
    rcases ih with ⟨D1, c', new, e1, S, wf⟩ | ⟨D1, c1, k, y, new, _, e2, S, wf1, wf2⟩
    · have ec : num l c' = num l c := by
        have z := S.head
        simpa using z
      have hx1 : lkp D1 (num (l + 1) x) = some (.node x.keys (x.kids.map (num l))) := by
        rw [S.frame _ (mem_keys.mpr (by rw [hLx]; exact nofun)) nxc]
        exact hLx
      have emap : (x.kids.take j ++ [c'] ++ x.kids.drop (j + 1)).map (num l) = x.kids.map (num l) := by
        conv => rhs; rw [hsplit]
        rw [List.append_assoc, List.map_append, List.map_append, List.map_append, List.map_cons, List.map_cons, ec]
        rfl
      have wc : WfSh room l false (shp l c') := wf false fun _ => rfl
      have kb2 : KBs (KeyB l) lo x.keys (x.kids.take j ++ [c'] ++ x.kids.drop (j + 1)) hi := by
        rw [List.append_assoc]
        show KBs (KeyB l) lo x.keys (x.kids.take j ++ c' :: x.kids.drop (j + 1)) hi
        rw [← eset]
        exact hset c' S.kb
      refine .inl ⟨D1, ndT (num (l + 1) x) x.keys (x.kids.take j ++ [c'] ++ x.kids.drop (j + 1)), new, e1, build D1 D1 [c'] [] new x.keys S (fun y hy => by rw [List.mem_singleton.mp hy]; exact wc) kb2 (by rw [emap]; exact hx1) (fun _ _ => rfl) rfl, fun tp' ht => ⟨?_, ?_, fun s hs => ?_⟩⟩
      · show loS room (l + 1) tp' ≤ ((x.kids.take j ++ [c'] ++ x.kids.drop (j + 1)).map (shp l)).length
        have el : ((x.kids.take j ++ [c'] ++ x.kids.drop (j + 1)).map (shp l)).length = x.kids.length := by
          have z := congrArg List.length emap
          rw [List.length_map, List.length_map] at z
          rw [List.length_map]
          exact z
        rw [el]
        cases tp' with
        | true =>
          cases tp with
          | true => exact w1'
          | false =>
            have q1 : loS room (l + 1) true = 2 := rfl
            have q2 : loS room (l + 1) false = (room + 1) / 2 := rfl
            omega
        | false =>
          rw [ht rfl] at w1'
          exact w1'
      · show ((x.kids.take j ++ [c'] ++ x.kids.drop (j + 1)).map (shp l)).length ≤ room
        have z := congrArg List.length emap
        rw [List.length_map, List.length_map] at z
        rw [List.length_map, z]
        exact w2'
      · obtain ⟨z, hz, rfl⟩ := List.mem_map.mp hs
        rcases List.mem_append.mp hz with hz | hz
        · rcases List.mem_append.mp hz with hz | hz
          · exact w3' z (List.mem_of_mem_take hz)
          · rw [List.mem_singleton.mp hz]
            exact wc
        · exact w3' z (List.mem_of_mem_drop hz)
    · have ec : num l c1 = num l c := by
        have z := S.head
        simpa using z
      have e2' := e2 (num (l + 1) x) rest _ rfl hLx
      have hx1 : lkp D1 (num (l + 1) x) = some (.node x.keys (x.kids.map (num l))) := by
        rw [S.frame _ (mem_keys.mpr (by rw [hLx]; exact nofun)) nxc]
        exact hLx
      have eidx := idx_of nd2 hc
      have eadd : addK (num l c) k (num l y) (.node x.keys (x.kids.map (num l))) = .node (x.keys.take j ++ k :: x.keys.drop j) ((x.kids.take j ++ [c1, y] ++ x.kids.drop (j + 1)).map (num l)) := by
        unfold addK
        dsimp only
        rw [eidx]
        congr 1
        have et : x.kids.take (j + 1) = x.kids.take j ++ [c] := take_more hc
        rw [← List.map_take, ← List.map_drop, et, List.map_append, List.map_append, List.map_append, List.map_cons, List.map_nil, List.map_cons, List.map_cons, List.map_nil, ec, List.append_assoc, List.append_assoc]
        rfl
      rw [eadd] at e2'
      have kb2 : KBs (KeyB l) lo (x.keys.take j ++ k :: x.keys.drop j) (x.kids.take j ++ [c1, y] ++ x.kids.drop (j + 1)) hi := by
        rw [List.append_assoc]
        exact hins c1 k y S.kb.1 S.kb.2
      have S2 := build D1 (setp D1 (num (l + 1) x) (.node (x.keys.take j ++ k :: x.keys.drop j) ((x.kids.take j ++ [c1, y] ++ x.kids.drop (j + 1)).map (num l)))) [c1, y] [k] new _ S (fun z hz => by
        have e : z = c1 ∨ z = y := by simpa using hz
        rcases e with rfl | rfl
        · exact wf1
        · exact wf2) kb2 (lkp_setp_eq hx1) (fun n hn => lkp_setp_ne hn) (setp_keys ..)
      have elen : (x.kids.take j ++ [c1, y] ++ x.kids.drop (j + 1)).length = x.kids.length + 1 := by
        have := (List.getElem?_eq_some_iff.mp hc).1
        rw [List.length_append, List.length_append, List.length_take, List.length_drop]
        simp only [List.length_cons, List.length_nil]
        omega
      have nd4 : (nums (l + 1) x ++ new).Nodup := by
        have hf : ∀ (ks new : List Int), Frees ks new → new.Nodup ∧ ∀ n ∈ new, n ∉ ks := fun ks new => by
          induction new generalizing ks with
          | nil => intro _; exact ⟨.nil, fun n hn => nomatch hn⟩
          | cons f r ih =>
            intro h
            obtain ⟨i1, i2⟩ := ih (ks ++ [f]) h.2
            refine ⟨List.nodup_cons.mpr ⟨fun z => i2 f z (List.mem_append_right _ (List.mem_singleton.mpr rfl)), i1⟩, fun n hn => ?_⟩
            rcases List.mem_cons.mp hn with rfl | hn
            · exact h.1.2.1
            · exact fun z => i2 n hn (List.mem_append_left _ z)
        obtain ⟨q1, q2⟩ := hf _ _ S.frees
        refine List.nodup_append.mpr ⟨nd, q1, fun p hp q hq z => ?_⟩
        rw [z] at hp
        exact q2 q hq (laid_mem hL q hp)
      have hri2 : (prs (l + 1) (ndT (num (l + 1) x) (x.keys.take j ++ k :: x.keys.drop j) (x.kids.take j ++ [c1, y] ++ x.kids.drop (j + 1)))).Pairwise (fun a b => a.1 < b.1) := by
        have z := S2.fprs
        have z2 : prs (l + 1) (ndT (num (l + 1) x) (x.keys.take j ++ k :: x.keys.drop j) (x.kids.take j ++ [c1, y] ++ x.kids.drop (j + 1))) ++ [] = insP (prs (l + 1) x) key value := z
        rw [List.append_nil] at z2
        rw [z2]
        exact insP_rise hri
      rw [e2']
      rcases finish r3 r8 (root := root) S2 nd4 h0 h1 hri2 tp (show loS room (l + 1) tp ≤ (x.kids.take j ++ [c1, y] ++ x.kids.drop (j + 1)).length ∧ (x.kids.take j ++ [c1, y] ++ x.kids.drop (j + 1)).length ≤ room + 1 ∧ ∀ z ∈ x.kids.take j ++ [c1, y] ++ x.kids.drop (j + 1), WfSh room l false (shp l z) from ⟨by rw [elen]; omega, by rw [elen]; omega, fun z hz => by
          rcases List.mem_append.mp hz with hz | hz
          · rcases List.mem_append.mp hz with hz | hz
            · exact w3' z (List.mem_of_mem_take hz)
            · have e : z = c1 ∨ z = y := by simpa using hz
              rcases e with rfl | rfl
              · exact wf1
              · exact wf2
          · exact w3' z (List.mem_of_mem_drop hz)⟩) rest with ⟨D3, x', new', q1, q2, q3⟩ | ⟨D3, x1, k2, y2, new', q1, q2, q3, q4⟩
      · exact .inl ⟨D3, x', new', q1, q2, q3⟩
      · refine .inr ⟨D3, x1, k2, y2, new', fun hr => q1.1 (by rw [hr]), fun e r ge hr hge => ?_, q2, q3, q4⟩
        obtain ⟨_, hne⟩ := hrest e r hr
        exact q1.2 e r ge (by rw [hr]) (by rw [q2.frame e (mem_keys.mpr (by rw [hge]; exact nofun)) hne]; exact hge)
end K29

namespace K29
open PySem PySem.Spec PyProof.Rows L2 RZ HX TR RP
theorem frees_new : ∀ {new ks : List Int}, Frees ks new → new.Nodup ∧ ∀ n ∈ new, n ∉ ks
  | [], _, _ => ⟨.nil, fun n hn => nomatch hn⟩
  | f :: r, ks, h => by
    obtain ⟨i1, i2⟩ := frees_new h.2
    refine ⟨List.nodup_cons.mpr ⟨fun z => i2 f z (List.mem_append_right _ (List.mem_singleton.mpr rfl)), i1⟩, fun n hn => ?_⟩
    rcases List.mem_cons.mp hn with rfl | hn
    · exact h.1.2.1
    · exact fun z => i2 n hn (List.mem_append_left _ z)
theorem pigeon : ∀ {n : Nat} {ks : List Int}, (∀ m : Int, 1 ≤ m → m ≤ n → m ∈ ks) → n ≤ ks.length
  | 0, _, _ => Nat.zero_le _
  | n + 1, ks, h => by
    have hm : ((n + 1 : Nat) : Int) ∈ ks := h _ (by omega) (Int.le_refl _)
    have ih := pigeon (n := n) (ks := ks.erase ((n + 1 : Nat) : Int)) fun m m1 m2 => (List.mem_erase_of_ne (by omega)).mpr (h m m1 (by omega))
    have e := List.length_erase_of_mem hm
    have p := List.length_pos_of_mem hm
    omega
theorem free_small {ks : List Int} {f : Int} (h : FreeK ks f) : 1 ≤ f ∧ f ≤ ks.length + 1 := by
  have z := pigeon (n := (f - 1).toNat) (ks := ks) fun m m1 m2 => h.2.2 m m1 (by have := h.1; omega)
  have := h.1
  omega
theorem frees_small : ∀ {new ks : List Int}, Frees ks new → ∀ f ∈ new, 1 ≤ f ∧ f ≤ ks.length + new.length
  | [], _, _, f, hf => nomatch hf
  | g :: r, ks, h, f, hf => by
    rcases List.mem_cons.mp hf with rfl | hf
    · have := free_small h.1
      rw [List.length_cons]
      omega
    · have := frees_small h.2 f hf
      rw [List.length_append] at this
      simp only [List.length_cons, List.length_nil] at this ⊢
      omega
/-! how many pages there are -/
theorem cnt_ge {room : Nat} (hr : 3 ≤ room) : ∀ {l : Nat} {s : Sh l}, WfSh room l false s → pgsS l s + 1 ≤ cntS l s ∧ 2 ^ (l + 1) ≤ cntS l s
  | 0, s, h => by
    have h1 : (room + 1) / 2 ≤ s.n := h.1
    show 1 + 1 ≤ s.n ∧ 2 ≤ s.n
    omega
  | l + 1, s, ⟨h1, h2, h3⟩ => by
    have e : loS room (l + 1) false = (room + 1) / 2 := rfl
    rw [e] at h1
    have z : ∀ ks : List (Sh l), (∀ k ∈ ks, WfSh room l false k) → (ks.map (pgsS l)).sum + ks.length ≤ (ks.map (cntS l)).sum ∧ ks.length * 2 ^ (l + 1) ≤ (ks.map (cntS l)).sum := fun ks => by
      induction ks with
      | nil => intro _; exact ⟨Nat.le_refl 0, by rw [List.length_nil, Nat.zero_mul]; exact Nat.zero_le _⟩
      | cons k ks ih =>
        intro h
        have a := cnt_ge hr (h k (List.mem_cons_self ..))
        have b := ih fun x hx => h x (List.mem_cons_of_mem _ hx)
        simp only [List.map_cons, List.sum_cons, List.length_cons, Nat.succ_mul]
        omega
    obtain ⟨a1, a2⟩ := z s.ks h3
    have a3 : 2 * 2 ^ (l + 1) ≤ s.ks.length * 2 ^ (l + 1) := Nat.mul_le_mul_right _ (by omega)
    show 1 + (s.ks.map (pgsS l)).sum + 1 ≤ (s.ks.map (cntS l)).sum ∧ 2 ^ (l + 1 + 1) ≤ (s.ks.map (cntS l)).sum
    rw [Nat.pow_succ]
    omega
theorem cnt_top {room : Nat} (hr : 3 ≤ room) : ∀ {l : Nat} {s : Sh l}, WfSh room l true s → pgsS l s ≤ max 1 (cntS l s) ∧ (l = 0 ∨ 2 ^ (l + 1) ≤ cntS l s)
  | 0, s, h => ⟨by show 1 ≤ max 1 _; omega, .inl rfl⟩
  | l + 1, s, ⟨h1, h2, h3⟩ => by
    have e : loS room (l + 1) true = 2 := rfl
    rw [e] at h1
    have z : ∀ ks : List (Sh l), (∀ k ∈ ks, WfSh room l false k) → (ks.map (pgsS l)).sum + ks.length ≤ (ks.map (cntS l)).sum ∧ ks.length * 2 ^ (l + 1) ≤ (ks.map (cntS l)).sum := fun ks => by
      induction ks with
      | nil => intro _; exact ⟨Nat.le_refl 0, by rw [List.length_nil, Nat.zero_mul]; exact Nat.zero_le _⟩
      | cons k ks ih =>
        intro h
        have a := cnt_ge hr (h k (List.mem_cons_self ..))
        have b := ih fun x hx => h x (List.mem_cons_of_mem _ hx)
        simp only [List.map_cons, List.sum_cons, List.length_cons, Nat.succ_mul]
        omega
    obtain ⟨a1, a2⟩ := z s.ks h3
    have a3 : 2 * 2 ^ (l + 1) ≤ s.ks.length * 2 ^ (l + 1) := Nat.mul_le_mul_right _ h1
    refine ⟨?_, .inr ?_⟩
    · show 1 + (s.ks.map (pgsS l)).sum ≤ max 1 ((s.ks.map (cntS l)).sum)
      omega
    · show 2 ^ (l + 1 + 1) ≤ (s.ks.map (cntS l)).sum
      rw [Nat.pow_succ]
      omega
theorem num_pgs {l : Nat} {t : Tr l} : (nums l t).length = pgsS l (shp l t) := by
  induction l with
  | zero => rfl
  | succ l ih =>
    show (num (l + 1) t :: t.kids.flatMap (nums l)).length = 1 + ((t.kids.map (shp l)).map (pgsS l)).sum
    rw [List.length_cons, List.length_flatMap, List.map_map, Nat.add_comm]
    congr 2
    exact List.map_congr_left fun u _ => ih
theorem put_upD {room l : Nat} {t : Tr l} {S D : List (Int × Pg)} {u : Tr 0} {nx key value : Int} (h : TR.Tree room l t S) (hSD : S.Perm D) (hu : leafOf l t key = some u) (hm : u ∈ lfs l t) (hg : lkp D (num 0 u) = some (.leaf u.ps nx)) : UpAt room (setp D (num 0 u) (.leaf (insP u.ps key value) nx)) 0 (wayOf l t key).reverse := by
  have hpd : (D.map (·.1)).Perm (nums l t) := (hSD.map (·.1)).symm.trans h.perm
  have ndS : (D.map (·.1)).Nodup := hpd.nodup_iff.mpr h.nodup
  have hlk : ∀ k, lkp D k = lkp S k := fun k => (lkp_perm ndS hSD k).symm
  have hlD : Laid D l t := h.laid.congr hlk
  obtain ⟨above, h1, h2, h3⟩ := way_above hlD h.wf h.keyOk hu
  have hri : u.ps.Pairwise (fun a b => a.1 < b.1) := h.rising.sublist (lfs_ps_sub hm)
  have hul : u.ps.length ≤ room := lfs_few h.wf u hm
  have r8 := h.r8
  have hil := insP_len (k := key) (v := value) hri
  have hnd : (num 0 u :: above).Nodup := by
    rw [← h1]
    exact (List.reverse_perm _).nodup_iff.mpr (h.nodup.sublist way_sub)
  have hil2 : (insP u.ps key value).length ≤ room + 1 := by
    rw [hil]
    split <;> omega
  refine ⟨fun n ab e => ?_, fun q hq => ?_, ?_⟩
  · rw [h1] at e
    cases e
    refine ⟨⟨_, lkp_setp_eq hg, ?_, hil2⟩, h2.congr fun x hx => lkp_setp_ne fun z => (List.nodup_cons.mp hnd).1 (by rw [← z]; exact hx), hnd⟩
    show (insP u.ps key value).length ≤ 1000
    omega
  · have hk : KeysLe D 1000000 := fun q hq => (h.range q.1 (hpd.mem_iff.mp (List.mem_map_of_mem hq))).2
    have := setp_keysLe hk q hq
    omega
  · rw [setp_len]
    have := tree_few h
    have := hSD.length_eq
    omega
/-- the tree behind a put -/
theorem put_tree {room l : Nat} {t : Tr l} {S D : List (Int × Pg)} (h : TR.Tree room l t S) (hSD : S.Perm D) {key value : Int} (k0 : 0 ≤ key) (k1 : key ≤ 1000000000) (v0 : 0 ≤ value) (v1 : value ≤ 1000000000) {u : Tr 0} (hu : leafOf l t key = some u) {nx : Int} (hg : lkp D (num 0 u) = some (.leaf u.ps nx))
    {S' : List (Int × Pg)} (hp : S'.Perm (putD room l t D u nx key value).1) (hs : S'.Pairwise fun a b => a.1 < b.1) (few : (prs l t).length + 1 ≤ 1000) :
    ∃ (l' : Nat) (t' : Tr l') (new : List Int), TR.Tree room l' t' S' ∧ num l' t' = (putD room l t D u nx key value).2 ∧ prs l' t' = insP (prs l t) key value ∧ (nums l' t').Perm (nums l t ++ new) ∧ Frees (D.map (·.1)) new ∧ ((l' = l ∧ num l' t' = num l t) ∨ (l' = l + 1 ∧ num l' t' ∉ nums l t)) := by
  have hpd : (D.map (·.1)).Perm (nums l t) := (hSD.map (·.1)).symm.trans h.perm
  have ndS : (D.map (·.1)).Nodup := hpd.nodup_iff.mpr h.nodup
  have hlk : ∀ k, lkp D k = lkp S k := fun k => (lkp_perm ndS hSD k).symm
  have hlD : Laid D l t := h.laid.congr hlk
  have r3 := h.r3
  have r8 := h.r8
  have il := (insP_len2 (k := key) (v := value) h.rising).2
  have fin : ∀ (l' : Nat) (t' : Tr l') (new : List Int) (D' : List (Int × Pg)), S'.Perm D' → Laid D' l' t' → KeyB l' t' 0 1000000001 → KeyOk l' t' → WfSh room l' true (shp l' t') → prs l' t' = insP (prs l t) key value → (nums l' t').Perm (nums l t ++ new) →
      D'.map (·.1) = D.map (·.1) ++ new → Frees (D.map (·.1)) new → Chain D' (lvs l' t') 0 → TR.Tree room l' t' S' := fun l' t' new D' hp hl hkb hok hwf hpr hnm hkD hfr hch => by
    obtain ⟨f1, f2⟩ := frees_new hfr
    have ndN : (nums l t ++ new).Nodup := List.nodup_append.mpr ⟨h.nodup, f1, fun p hp q hq z => f2 q hq (by rw [← z]; exact hpd.mem_iff.mpr hp)⟩
    have ndD : (D'.map (·.1)).Nodup := by
      rw [hkD]
      exact List.nodup_append.mpr ⟨ndS, f1, fun p hp q hq z => f2 q hq (by rw [← z]; exact hp)⟩
    have ec : cntS l' (shp l' t') = (prs l' t').length := cnt_prs
    have few' : (nums l' t').length ≤ 1000 := by
      have z := (cnt_top r3 hwf).1
      rw [ec, hpr] at z
      rw [num_pgs]
      omega
    refine ⟨r3, r8, hwf, hnm.nodup_iff.mpr ndN, fun k hk => ?_, ?_, hs, hl.congr fun k => lkp_perm ndD hp k, next_of (Chain.congr (fun n _ => lkp_perm ndD hp n) hch), hkb, hok, by rw [hpr]; exact insP_rise h.rising, fun q hq => ?_, few'⟩
    · rcases List.mem_append.mp (hnm.mem_iff.mp hk) with hk | hk
      · exact h.range k hk
      · have z := frees_small hfr k hk
        have e1 := hpd.length_eq
        have e2 := hnm.length_eq
        rw [List.length_append] at e2
        omega
    · refine (hp.map (·.1)).trans ?_
      rw [hkD]
      exact (List.Perm.append_right _ hpd).trans hnm.symm
    · rw [hpr] at hq
      rcases insP_mem hq with rfl | hq
      · exact ⟨k0, k1, v0, v1⟩
      · exact h.good q hq
  have ch : Chain D (lvs l t) 0 := Chain.congr (fun n _ => hlk n) (chain_of h.next)
  unfold putD at hp ⊢
  rcases climb r3 r8 (root := num l t) (value := value) hg hlD h.nodup hu h.wf h.keyOk h.keyB (Int.le_refl 0) (Int.le_refl _) k0 (by omega) h.rising [] (fun e r he => nomatch he) with ⟨D1, x', new, e1, P, wf⟩ | ⟨D1, x1, k, y, new, e1, _, P, wf1, wf2⟩
  · rw [List.append_nil] at e1
    rw [e1] at hp ⊢
    have hX : num l x' = num l t := by
      have z := P.head
      simpa using z
    have pX : prs l x' = insP (prs l t) key value := by
      have z := P.fprs
      simpa using z
    have nX : (nums l x').Perm (nums l t ++ new) := by
      have z := P.fnums
      simpa using z
    have cX : Chain D1 (lvs l x') 0 := by
      have z := P.chain 0 ch
      have e : [x'].flatMap (lvs l) = lvs l x' := by rw [List.flatMap_cons, List.flatMap_nil, List.append_nil]
      rw [e] at z
      exact z
    exact ⟨l, x', new, fin l x' new D1 hp (P.laid _ (List.mem_singleton.mpr rfl)) P.kb (P.ok _ (List.mem_singleton.mpr rfl)) (wf true fun z => nomatch z) pX nX P.keysD P.frees cX, hX, pX, nX, P.frees, .inl ⟨rfl, hX⟩⟩
  · have e1 := e1 rfl
    rw [List.append_nil] at e1
    rw [e1] at hp ⊢
    have hX : num l x1 = num l t := by
      have z := P.head
      simpa using z
    have fr := free_exists D1
    have frk := freeK_of fr
    rw [P.keysD] at frk
    have frees' : Frees (D.map (·.1)) (new ++ [freeN D1]) := Frees.app.mpr ⟨P.frees, frk, True.intro⟩
    have keep : ∀ n, lkp D1 n ≠ none → lkp (D1 ++ [(freeN D1, .node [k] [num l t, num l y])]) n = lkp D1 n := fun n hn => lkp_app (.inl hn)
    have laid1 : ∀ z ∈ [x1, y], Laid (D1 ++ [(freeN D1, .node [k] [num l t, num l y])]) l z := fun z hz => (P.laid z hz).more
    have wfs : ∀ z ∈ [x1, y], WfSh room l false (shp l z) := fun z hz => by
      have e : z = x1 ∨ z = y := by simpa using hz
      rcases e with rfl | rfl
      · exact wf1
      · exact wf2
    have pX : prs (l + 1) (ndT (freeN D1) [k] [x1, y]) = insP (prs l t) key value := P.fprs
    have nX : (nums (l + 1) (ndT (freeN D1) [k] [x1, y])).Perm (nums l t ++ (new ++ [freeN D1])) := by
      show (freeN D1 :: [x1, y].flatMap (nums l)).Perm _
      rw [← List.append_assoc]
      exact (List.perm_append_singleton (freeN D1) _).symm.trans (List.Perm.append_right _ P.fnums)
    have cX : Chain (D1 ++ [(freeN D1, .node [k] [num l t, num l y])]) (lvs (l + 1) (ndT (freeN D1) [k] [x1, y])) 0 := by
      have z := P.chain 0 ch
      refine Chain.congr (fun n hn => ?_) z
      obtain ⟨w, hw, hnw⟩ := List.mem_flatMap.mp hn
      exact keep n (mem_keys.mp (laid_mem (P.laid w hw) n (lvs_sub.subset hnw)))
    have notin : freeN D1 ∉ nums l t := fun z => frk.2.1 (List.mem_append_left _ (hpd.mem_iff.mpr z))
    refine ⟨l + 1, ndT (freeN D1) [k] [x1, y], new ++ [freeN D1], fin (l + 1) _ _ _ hp ⟨?_, laid1⟩ P.kb (KeyOk.of_kb r3 P.kb (Int.le_refl 0) (Int.le_refl _) wfs P.ok) ⟨by show 2 ≤ 2; omega, by show 2 ≤ room; omega, fun s hs => ?_⟩ pX nX ?_ frees' cX, rfl, pX, nX, frees', .inr ⟨rfl, notin⟩⟩
    · show lkp _ (freeN D1) = some (.node [k] [num l x1, num l y])
      rw [hX]
      exact lkp_new fr.2.1
    · obtain ⟨w, hw, rfl⟩ := List.mem_map.mp hs
      exact wfs w hw
    · rw [List.map_append, P.keysD, List.append_assoc]
      rfl
end K29

namespace K29
open PySem PySem.Spec PyProof.Rows L2 RZ HX TR RP
/-! ### planting: plain mathematics -/
theorem sig_num {l l2 : Nat} {t : Tr l} {t2 : Tr l2} (h : (⟨l, t⟩ : Sigma Tr) = ⟨l2, t2⟩) : num l t = num l2 t2 := by
  cases h
  rfl
theorem laid_uniq {S : List (Int × Pg)} : ∀ {l : Nat} {t : Tr l} {l2 : Nat} {t2 : Tr l2}, KeyOk l t → Laid S l t → Laid S l2 t2 → num l t = num l2 t2 → (⟨l, t⟩ : Sigma Tr) = ⟨l2, t2⟩
  | 0, t, 0, t2, _, ⟨nx, h1⟩, ⟨nx2, h2⟩, e => by
    rw [← e, h1] at h2
    cases h2'' : t with | mk a b =>
    cases h2''' : t2 with | mk c d =>
    subst h2'' h2'''
    have e1 : a = c := e
    have e2 : b = d := by
      have z := Option.some.inj h2
      injection z
    rw [e1, e2]
  | 0, t, l2 + 1, t2, _, ⟨nx, h1⟩, ⟨h2, _⟩, e => by
    rw [← e, h1] at h2
    cases h2
  | l + 1, t, 0, t2, _, ⟨h1, _⟩, ⟨nx, h2⟩, e => by
    rw [← e, h1] at h2
    cases h2
  | l + 1, t, l2 + 1, t2, hok, ⟨h1, g1⟩, ⟨h2, g2⟩, e => by
    rw [← e, h1] at h2
    have z := Option.some.inj h2
    injection z with z1 z2
    -- kids alike
    have kids : ∀ (as : List (Tr l)) (bs : List (Tr l2)), (∀ a ∈ as, KeyOk l a) → (∀ a ∈ as, Laid S l a) → (∀ b ∈ bs, Laid S l2 b) → as.map (num l) = bs.map (num l2) → as ≠ [] → (∃ el : l = l2, el ▸ as = bs) := by
      intro as
      induction as with
      | nil => intro bs _ _ _ _ h; exact (h rfl).elim
      | cons a as ih =>
        intro bs hk ha hb he _
        cases bs with
        | nil => cases he
        | cons b bs =>
          rw [List.map_cons, List.map_cons] at he
          injection he with he1 he2
          have s := laid_uniq (hk a (List.mem_cons_self ..)) (ha a (List.mem_cons_self ..)) (hb b (List.mem_cons_self ..)) he1
          injection s with s1 s2
          subst s1
          refine ⟨rfl, ?_⟩
          have s2 := eq_of_heq s2
          subst s2
          cases as with
          | nil =>
            cases bs with
            | nil => rfl
            | cons b bs => cases he2
          | cons a' as' =>
            obtain ⟨_, q⟩ := ih bs (fun x hx => hk x (List.mem_cons_of_mem _ hx)) (fun x hx => ha x (List.mem_cons_of_mem _ hx)) (fun x hx => hb x (List.mem_cons_of_mem _ hx)) he2 nofun
            have q' : a' :: as' = bs := q
            rw [q']
    obtain ⟨a, ks, kk⟩ := t
    obtain ⟨b, ks2, kk2⟩ := t2
    have e1 : a = b := e
    have e2 : ks = ks2 := z1
    subst e1 e2
    have hne : kk ≠ [] := fun z => by
      have h3 := hok.2.2.1
      have h4 : ks.length + 1 = kk.length := h3
      rw [z] at h4
      cases h4
    obtain ⟨el, q⟩ := kids kk kk2 hok.2.2.2 g1 g2 z2 hne
    subst el
    have q' : kk = kk2 := q
    rw [q']
theorem sorted_uniq : ∀ {S S2 : List (Int × Pg)}, S.Perm S2 → S.Pairwise (fun a b => a.1 < b.1) → S2.Pairwise (fun a b => a.1 < b.1) → S = S2
  | [], S2, p, _, _ => (List.Perm.nil_eq p)
  | a :: S, [], p, _, _ => absurd p.length_eq (by simp)
  | a :: S, b :: S2, p, h1, h2 => by
    obtain ⟨a1, a2⟩ := List.pairwise_cons.mp h1
    obtain ⟨b1, b2⟩ := List.pairwise_cons.mp h2
    have e : a = b := by
      have ma : a ∈ b :: S2 := p.mem_iff.mp (List.mem_cons_self ..)
      have mb : b ∈ a :: S := p.mem_iff.mpr (List.mem_cons_self ..)
      rcases List.mem_cons.mp ma with h | h
      · exact h
      · rcases List.mem_cons.mp mb with h' | h'
        · exact h'.symm
        · have := a1 b h'
          have := b1 a h
          omega
    subst e
    rw [sorted_uniq (List.Perm.cons_inv p) a2 b2]
def insS (q : Int × Pg) : List (Int × Pg) → List (Int × Pg)
  | [] => [q]
  | a :: S => if q.1 < a.1 then q :: a :: S else a :: insS q S
theorem insS_perm (q : Int × Pg) : ∀ S, (insS q S).Perm (q :: S)
  | [] => List.Perm.refl _
  | a :: S => by
    unfold insS
    split
    · exact List.Perm.refl _
    · exact (List.Perm.cons a (insS_perm q S)).trans (List.Perm.swap q a S)
theorem insS_sorted {q : Int × Pg} : ∀ {S : List (Int × Pg)}, S.Pairwise (fun a b => a.1 < b.1) → (∀ a ∈ S, a.1 ≠ q.1) → (insS q S).Pairwise (fun a b => a.1 < b.1)
  | [], _, _ => List.pairwise_singleton _ _
  | a :: S, h, hn => by
    obtain ⟨h1, h2⟩ := List.pairwise_cons.mp h
    unfold insS
    split
    · rename_i c
      refine List.pairwise_cons.mpr ⟨fun b hb => ?_, h⟩
      rcases List.mem_cons.mp hb with rfl | hb
      · exact c
      · have := h1 b hb
        omega
    · rename_i c
      refine List.pairwise_cons.mpr ⟨fun b hb => ?_, insS_sorted h2 fun b hb => hn b (List.mem_cons_of_mem _ hb)⟩
      rcases List.mem_cons.mp ((insS_perm q S).mem_iff.mp hb) with rfl | hb
      · have := hn a (List.mem_cons_self ..)
        omega
      · exact h1 b hb
theorem sort_ex : ∀ (D : List (Int × Pg)), (D.map (·.1)).Nodup → ∃ S : List (Int × Pg), S.Perm D ∧ S.Pairwise (fun a b => a.1 < b.1)
  | [], _ => ⟨[], List.Perm.refl _, .nil⟩
  | q :: D, h => by
    obtain ⟨h1, h2⟩ := List.nodup_cons.mp h
    obtain ⟨S, p, s⟩ := sort_ex D h2
    exact ⟨insS q S, (insS_perm q S).trans (List.Perm.cons q p), insS_sorted s fun a ha e => h1 (by show q.1 ∈ D.map (·.1); rw [← e]; exact List.mem_map_of_mem (p.mem_iff.mp ha))⟩
/-! the pages in another order -/
theorem free_congr {D D2 : List (Int × Pg)} (h : ∀ k, lkp D k = lkp D2 k) : freeN D = freeN D2 := by
  refine freeN_of ?_
  obtain ⟨a, b, c⟩ := free_exists D2
  exact ⟨a, by rw [h]; exact b, fun m m1 m2 => by rw [h]; exact c m m1 m2⟩
theorem setp_perm {D D2 : List (Int × Pg)} {k : Int} {g : Pg} (h : D.Perm D2) : (setp D k g).Perm (setp D2 k g) := h.map _
theorem part1_perm {half : Nat} {D D2 : List (Int × Pg)} {n : Int} {g : Pg} (h : D.Perm D2) (nd : (D2.map (·.1)).Nodup) : (part1 half D n g).1.Perm (part1 half D2 n g).1 ∧ (part1 half D n g).2 = (part1 half D2 n g).2 := by
  have e := free_congr (D := D) (D2 := D2) fun k => lkp_perm nd h k
  unfold part1
  dsimp only
  rw [e]
  exact ⟨(setp_perm h).append_right _, rfl⟩
theorem upD_perm {room half : Nat} : ∀ (L : List Int) {D D2 : List (Int × Pg)} {root : Int}, D.Perm D2 → (D2.map (·.1)).Nodup → (upD room half D root L).1.Perm (upD room half D2 root L).1 ∧ (upD room half D root L).2 = (upD room half D2 root L).2
  | [], D, D2, root, h, nd => by simp only [upD]; exact ⟨h, True.intro⟩
  | [n], D, D2, root, h, nd => by
    have e := lkp_perm nd h n
    cases c : lkp D2 n with
    | none =>
      rw [c] at e
      simp only [upD, c, e]
      exact ⟨h, True.intro⟩
    | some g =>
      rw [c] at e
      by_cases hle : Pg.parts g ≤ room
      · rw [upD_stay c hle, upD_stay e hle]
        exact ⟨h, rfl⟩
      · rw [upD_top c hle, upD_top e hle]
        obtain ⟨p1, p2⟩ := part1_perm (half := half) (n := n) (g := g) h nd
        have nd1 : ((part1 half D2 n g).1.map (·.1)).Nodup := by
          rw [part1_keysD]
          exact List.nodup_append.mpr ⟨nd, List.nodup_cons.mpr ⟨nofun, .nil⟩, fun a ha b hb z => by
            rw [List.mem_singleton.mp hb] at z
            rw [z] at ha
            exact (mem_keys.mp ha) (free_exists D2).2.1⟩
        have ef := free_congr (D := (part1 half D n g).1) (D2 := (part1 half D2 n g).1) fun k => lkp_perm nd1 p1 k
        rw [ef, p2]
        exact ⟨p1.append_right _, rfl⟩
  | n :: e :: rest, D, D2, root, h, nd => by
    have el := lkp_perm nd h n
    cases c : lkp D2 n with
    | none =>
      rw [c] at el
      simp only [upD, c, el]
      exact ⟨h, True.intro⟩
    | some g =>
      rw [c] at el
      by_cases hle : Pg.parts g ≤ room
      · rw [upD_stay c hle, upD_stay el hle]
        exact ⟨h, rfl⟩
      · obtain ⟨p1, p2⟩ := part1_perm (half := half) (n := n) (g := g) h nd
        have nd1 : ((part1 half D2 n g).1.map (·.1)).Nodup := by
          rw [part1_keysD]
          exact List.nodup_append.mpr ⟨nd, List.nodup_cons.mpr ⟨nofun, .nil⟩, fun a ha b hb z => by
            rw [List.mem_singleton.mp hb] at z
            rw [z] at ha
            exact (mem_keys.mp ha) (free_exists D2).2.1⟩
        have el2 := lkp_perm nd1 p1 e
        cases c2 : lkp (part1 half D2 n g).1 e with
        | none =>
          rw [c2] at el2
          simp only [upD, c, el, if_neg hle, c2, el2]
          exact ⟨h, True.intro⟩
        | some ge =>
          rw [c2] at el2
          rw [upD_up c hle c2, upD_up el hle el2, p2]
          exact upD_perm (e :: rest) (setp_perm p1) (by rw [setp_keys]; exact nd1)
theorem putD_perm {room l : Nat} {t : Tr l} {D D2 : List (Int × Pg)} {u : Tr 0} {nx key value : Int} (h : D.Perm D2) (nd : (D2.map (·.1)).Nodup) : (putD room l t D u nx key value).1.Perm (putD room l t D2 u nx key value).1 ∧ (putD room l t D u nx key value).2 = (putD room l t D2 u nx key value).2 := by
  unfold putD
  exact upD_perm _ (setp_perm h) (by rw [setp_keys]; exact nd)
theorem putD_nodup {room l : Nat} {t : Tr l} {S : List (Int × Pg)} (h : TR.Tree room l t S) {u : Tr 0} {nx : Int} {key value : Int} (hu : leafOf l t key = some u) (hg : lkp S (num 0 u) = some (.leaf u.ps nx)) (gq : GoodPr (key, value)) : ((putD room l t S u nx key value).1.map (·.1)).Nodup := by
  have ndS : (S.map (·.1)).Nodup := h.perm.nodup_iff.mpr h.nodup
  have fin : ∀ (D : List (Int × Pg)) (new : List Int), D.map (·.1) = S.map (·.1) ++ new → Frees (S.map (·.1)) new → (D.map (·.1)).Nodup := fun D new e f => by
    obtain ⟨f1, f2⟩ := frees_new f
    rw [e]
    exact List.nodup_append.mpr ⟨ndS, f1, fun p hp q hq z => f2 q hq (by rw [← z]; exact hp)⟩
  unfold putD
  rcases climb h.r3 h.r8 (root := num l t) (value := value) hg h.laid h.nodup hu h.wf h.keyOk h.keyB (Int.le_refl 0) (Int.le_refl _) gq.1 (by have := gq.2.1; simp only at this; omega) h.rising [] (fun e r he => nomatch he) with ⟨D1, x', new, e1, P, wf⟩ | ⟨D1, x1, k, y, new, e1, _, P, wf1, wf2⟩
  · rw [List.append_nil] at e1
    rw [e1]
    exact fin D1 new P.keysD P.frees
  · have e1 := e1 rfl
    rw [List.append_nil] at e1
    rw [e1]
    have fr := free_exists D1
    have frk := freeK_of fr
    rw [P.keysD] at frk
    refine fin _ (new ++ [freeN D1]) ?_ (Frees.app.mpr ⟨P.frees, frk, True.intro⟩)
    rw [List.map_append, P.keysD, List.append_assoc]
    rfl
/-- pairs put one by one (the last one first) -/
def Plant (room : Nat) : List (Int × Int) → (l : Nat) → Tr l → List (Int × Pg) → Prop
  | [], l, t, S => TR.Tree room l t S ∧ S = [(1, .leaf [] 0)] ∧ num l t = 1
  | q :: qs, l, t, S => TR.Tree room l t S ∧ ∃ (l0 : Nat) (t0 : Tr l0) (S0 : List (Int × Pg)) (u : Tr 0) (nx : Int), Plant room qs l0 t0 S0 ∧ leafOf l0 t0 q.1 = some u ∧ lkp S0 (num 0 u) = some (.leaf u.ps nx) ∧ S.Perm (putD room l0 t0 S0 u nx q.1 q.2).1 ∧ num l t = (putD room l0 t0 S0 u nx q.1 q.2).2
theorem Plant.tree {room : Nat} : ∀ {qs : List (Int × Int)} {l : Nat} {t : Tr l} {S : List (Int × Pg)}, Plant room qs l t S → TR.Tree room l t S
  | [], _, _, _, h => h.1
  | _ :: _, _, _, _, h => h.1
theorem Plant.uniq {room : Nat} : ∀ {qs : List (Int × Int)} {l l2 : Nat} {t : Tr l} {t2 : Tr l2} {S S2 : List (Int × Pg)}, Plant room qs l t S → Plant room qs l2 t2 S2 → S = S2 ∧ num l t = num l2 t2
  | [], _, _, _, _, _, _, ⟨_, h1, h2⟩, ⟨_, g1, g2⟩ => ⟨h1.trans g1.symm, h2.trans g2.symm⟩
  | q :: qs, l, l2, t, t2, S, S2, ⟨hT, l0, t0, S0, u, nx, hP, hu, hg, hp, hn⟩, ⟨gT, l0', t0', S0', u', nx', gP, gu, gg, gp, gn⟩ => by
    obtain ⟨e1, e2⟩ := Plant.uniq hP gP
    subst e1
    have s := laid_uniq hP.tree.keyOk hP.tree.laid gP.tree.laid e2
    injection s with s1 s2
    subst s1
    have s2 := eq_of_heq s2
    subst s2
    rw [hu] at gu
    cases gu
    rw [hg] at gg
    cases gg
    exact ⟨sorted_uniq (hp.trans gp.symm) hT.sorted gT.sorted, hn.trans gn.symm⟩
def plantP (qs : List (Int × Int)) : List (Int × Int) := qs.foldr (fun q acc => insP acc q.1 q.2) []
theorem plantP_rise : ∀ {qs : List (Int × Int)}, (plantP qs).Pairwise fun a b => a.1 < b.1
  | [] => .nil
  | _ :: qs => insP_rise (plantP_rise (qs := qs))
theorem plantP_len : ∀ {qs : List (Int × Int)}, (plantP qs).length ≤ qs.length
  | [] => Nat.le_refl 0
  | q :: qs => by
    have a := plantP_len (qs := qs)
    have b := (insP_len2 (k := q.1) (v := q.2) (plantP_rise (qs := qs))).2
    show (insP (plantP qs) q.1 q.2).length ≤ qs.length + 1
    omega
theorem leaf_ex {room l : Nat} {t : Tr l} {S : List (Int × Pg)} (h : TR.Tree room l t S) (key : Int) : ∃ u nx, leafOf l t key = some u ∧ u ∈ lfs l t ∧ lkp S (num 0 u) = some (.leaf u.ps nx) := by
  obtain ⟨u, hu, hm⟩ := leafOf_some key h.keyOk
  obtain ⟨nx, hg⟩ := lfs_laid h.laid u hm
  exact ⟨u, nx, hu, hm, hg⟩
/-- one more pair -/
theorem Plant.step {room : Nat} {qs : List (Int × Int)} {l : Nat} {t : Tr l} {S : List (Int × Pg)} (h : Plant room qs l t S) (hp : prs l t = plantP qs) {q : Int × Int} (hq : GoodPr q) (few : qs.length ≤ 900) {u : Tr 0} {nx : Int} (hu : leafOf l t q.1 = some u) (hg : lkp S (num 0 u) = some (.leaf u.ps nx)) {S' : List (Int × Pg)}
    (hS' : S'.Perm (putD room l t S u nx q.1 q.2).1) (hs : S'.Pairwise fun a b => a.1 < b.1) : ∃ (l' : Nat) (t' : Tr l'), Plant room (q :: qs) l' t' S' ∧ prs l' t' = plantP (q :: qs) ∧ num l' t' = (putD room l t S u nx q.1 q.2).2 := by
  have z := plantP_len (qs := qs)
  obtain ⟨l', t', new, hT, hn, hpr, _⟩ := put_tree h.tree (List.Perm.refl S) hq.1 hq.2.1 hq.2.2.1 hq.2.2.2 hu hg hS' hs (by rw [hp]; omega)
  exact ⟨l', t', ⟨hT, l, t, S, u, nx, h, hu, hg, hS', hn⟩, by rw [hpr, hp]; rfl, hn⟩
theorem Plant.low {room : Nat} {qs : List (Int × Int)} {l : Nat} {t : Tr l} {S : List (Int × Pg)} (h : TR.Tree room l t S) (hp : prs l t = plantP qs) (few : qs.length ≤ 900) : l ≤ 9 := by
  have z := plantP_len (qs := qs)
  have w := (cnt_top h.r3 h.wf).2
  have ec : cntS l (shp l t) = (prs l t).length := cnt_prs
  rw [ec, hp] at w
  rcases w with w | w
  · omega
  · by_cases c : l ≤ 9
    · exact c
    · have : 2 ^ (10 + 1) ≤ 2 ^ (l + 1) := Nat.pow_le_pow_right (by decide) (by omega)
      omega
theorem plant_nil {room : Nat} (r3 : 3 ≤ room) (r8 : room ≤ 8) : Plant room [] 0 (lfT 1 []) [(1, .leaf [] 0)] ∧ prs 0 (lfT 1 []) = plantP [] := by
  refine ⟨⟨⟨r3, r8, ⟨Nat.zero_le _, Nat.zero_le _⟩, List.nodup_cons.mpr ⟨nofun, .nil⟩, fun k hk => ?_, List.Perm.refl _, List.pairwise_singleton _ _, ⟨0, rfl⟩, fun j n hj hn => ?_, (fun q hq => nomatch hq), True.intro, .nil, (fun q hq => nomatch hq), by show 1 ≤ 1000; decide⟩, rfl, rfl⟩, rfl⟩
  · obtain rfl := List.mem_singleton.mp hk
    exact ⟨by decide, by decide⟩
  · have e : j = 0 := by
      have z : j < 1 := hj
      omega
    subst e
    have en : n = 1 := by
      have z : some (1 : Int) = some n := hn
      injection z with z
      exact z.symm
    subst en
    exact ⟨[], rfl⟩
/-! the map of pairs -/
theorem lkp_insP {P : List (Int × Int)} {k v k' : Int} (h : P.Pairwise fun a b => a.1 < b.1) : lkpP (insP P k v) k' = if k' = k then some v else lkpP P k' := by
  by_cases c : k' = k
  · rw [if_pos c, c]
    exact lkpP_of (insP_rise h) (by unfold insP; exact List.mem_append_right _ (List.mem_cons_self ..))
  · rw [if_neg c]
    cases e : lkpP P k' with
    | none =>
      refine lkpP_none fun q hq => ?_
      rcases insP_mem hq with rfl | hq
      · exact fun z => c z.symm
      · exact lkpP_ne e q hq
    | some w =>
      have m := lkpP_mem e
      refine lkpP_of (insP_rise h) ?_
      unfold insP
      rcases Int.lt_trichotomy k' k with h1 | h1 | h1
      · exact List.mem_append_left _ (List.mem_filter.mpr ⟨m, decide_eq_true h1⟩)
      · exact (c h1).elim
      · exact List.mem_append_right _ (List.mem_cons_of_mem _ (List.mem_filter.mpr ⟨m, decide_eq_true h1⟩))
theorem map_uniq : ∀ {P R : List (Int × Int)}, P.Pairwise (fun a b => a.1 < b.1) → R.Pairwise (fun a b => a.1 < b.1) → (∀ k, lkpP P k = lkpP R k) → P = R
  | [], [], _, _, _ => rfl
  | [], r :: R, _, h, e => by
    have z := lkpP_of h (k := r.1) (v := r.2) (List.mem_cons_self ..)
    rw [← e] at z
    cases z
  | p :: P, [], h, _, e => by
    have z := lkpP_of h (k := p.1) (v := p.2) (List.mem_cons_self ..)
    rw [e] at z
    cases z
  | p :: P, r :: R, h1, h2, e => by
    obtain ⟨a1, a2⟩ := List.pairwise_cons.mp h1
    obtain ⟨b1, b2⟩ := List.pairwise_cons.mp h2
    have zp := lkpP_of h1 (k := p.1) (v := p.2) (List.mem_cons_self ..)
    have zr := lkpP_of h2 (k := r.1) (v := r.2) (List.mem_cons_self ..)
    have hpr : p = r := by
      have m1 := lkpP_mem (by rw [← e]; exact zp : lkpP (r :: R) p.1 = some p.2)
      have m2 := lkpP_mem (by rw [e]; exact zr : lkpP (p :: P) r.1 = some r.2)
      rcases List.mem_cons.mp m1 with h | h
      · exact h
      · rcases List.mem_cons.mp m2 with h' | h'
        · exact h'.symm
        · have := b1 _ h
          have := a1 _ h'
          simp only at *
          omega
    subst hpr
    have er : ∀ k, lkpP P k = lkpP R k := fun k => by
      have z := e k
      by_cases c : p.1 = k
      · rw [lkpP_none fun q hq => by have := a1 q hq; omega, lkpP_none fun q hq => by have := b1 q hq; omega]
      · unfold lkpP at z ⊢
        rw [List.find?_cons, List.find?_cons, decide_eq_false c] at z
        exact z
    rw [map_uniq a2 b2 er]
end K29

namespace K29
open PySem PySem.Spec PyProof.Rows L2 RZ HX TR RP
section
variable {P : Program} {w : World} {K : PySem.W.Frag} {mg : Str → Option Value} {base : Heap}
def sp_levels_in : Sp := fun vs H Q _ => ∃ (v : V) (room l : Nat) (t : Tr l) (S : List (Int × Pg)), vs = [v] ∧ SndAt H v room l t S ∧ l ≤ 100 ∧ ∀ (H' : Hp) (a : Addr), Same H H' → LevAt H' a (rows l [t]) → Q (.ref a) H'
def sp_pairs_in : Sp := fun vs H Q _ => ∃ (v : V) (room l : Nat) (t : Tr l) (S : List (Int × Pg)), vs = [v] ∧ SndAt H v room l t S ∧ l ≤ 100 ∧ ∀ (H' : Hp) (a : Addr), Same H H' → PrT H' a (prs l t) → Q (.ref a) H'
end
end K29

namespace K29
open PySem PySem.Spec PyProof.Rows L2 RZ HX TR RP
section
variable {P : Program} {w : World} {K : PySem.W.Frag} {mg : Str → Option Value} {base : Heap}
def sp_pairs_of : Sp := fun vs H Q _ => ∃ (v : V) (room l : Nat) (t : Tr l) (S : List (Int × Pg)), vs = [v] ∧ SndAt H v room l t S ∧ l ≤ 100 ∧ ∀ (H' : Hp) (a : Addr), Same H H' → PrT H' a (prs l t) → Q (.ref a) H'
end
end K29

namespace K29
open PySem PySem.Spec PyProof.Rows L2 RZ HX TR RP
section
variable {P : Program} {w : World} {K : PySem.W.Frag} {mg : Str → Option Value} {base : Heap}
theorem b_empty (T : TX K mg) : ∃ ds, Vals [V.int 4] ds ∧ Binds K T.fd_empty ["room"] ds :=
  T.F_empty.binds0 0 (by simp) rfl fun D doc pm an cdv ct us ks h1 h2 => match us, ks, h1, h2 with
    | [], [k], _, _ => ⟨_, _, _, _, _, _, rfl, rfl, rfl⟩
theorem kb_empty (T : TX K mg) : KBn K T.fd_empty ["room"] 0 ["room"] (fun us ws => us ++ ws) (fun vs zs => vs ++ zs) := by
  obtain ⟨mv, h⟩ := T.F_empty.kbinds0 (ps := ["room"]) 0 ["room"] [] (fun us _ ws => us ++ ws) (by simp) (fun q hq => by cases hq) (fun h1 _ h3 => h1.append h3) fun D doc pm an cdv ct us mv ws h1 h2 h3 => match us, mv, ws, h1, h2, h3 with
    | [], [], [k], _, _, _ => rfl
  exact h
theorem b_planted (T : TX K mg) : ∃ ds, Vals [V.int 4] ds ∧ Binds K T.fd_planted ["pairs", "room"] ds :=
  T.F_planted.binds0 1 (by simp) rfl fun D doc pm an cdv ct us ks h1 h2 => match us, ks, h1, h2 with
    | [u], [k], _, _ => ⟨_, _, _, _, _, _, rfl, rfl, rfl⟩
theorem kb_planted (T : TX K mg) : KBn K T.fd_planted ["pairs", "room"] 1 ["room"] (fun us ws => us ++ ws) (fun vs zs => vs ++ zs) := by
  obtain ⟨mv, h⟩ := T.F_planted.kbinds0 (ps := ["pairs", "room"]) 1 ["room"] [] (fun us _ ws => us ++ ws) (by simp) (fun q hq => by cases hq) (fun h1 _ h3 => h1.append h3) fun D doc pm an cdv ct us mv ws h1 h2 h3 => match us, mv, ws, h1, h2, h3 with
    | [u], [], [k], _, _, _ => rfl
  exact h
def sp_need_room : Sp := fun vs H Q _ => ∃ n : Int, vs = [.int n] ∧ 3 ≤ n ∧ n ≤ 8 ∧ Q .non H
theorem ok_need_room (T : TX K mg) : FnOk P w K mg base CX0 4 (He.ga K "need_room") T.fd_need_room ["thing"] sp_need_room := by
  have G_is_room : FnOk P w K mg base CX0 3 (He.ga K "is_room") T.fd_is_room ["thing"] (sp_rng 3 8) := ok_is_room T
  have b_is_room := b_is_room T
  refine T.F_need_room.ok sc_need_room (fun vs H Q E h => ?_) (fun cdv A outer st H vs Q E hr h => ?_)
  · obtain ⟨n, rfl, _⟩ := h
    rfl
  · obtain ⟨n, rfl, h1, h2, kq⟩ := h
    refine ⟨_, PSs.nox (pss_one (ps_if (pt_not (pt_val (pe_call G_is_room (hr.mono (by first | decide | omega)) rfl T.g_is_room T.F_is_room.kp b_is_room .nil pass0 (pa_cons (pv 0) pa_nil))))
 (pss_one ps_never)
 pss_nil)), ?_⟩
    refine ⟨_, rfl, n, rfl, ?_⟩
    rw [decide_eq_true h1, decide_eq_true h2]
    exact ⟨true, rfl, iteF kq⟩
def sp_is_tree : Sp := fun vs H Q _ => ∃ (v : V) (room l : Nat) (t : Tr l) (S : List (Int × Pg)), vs = [v] ∧ SndAt H v room l t S ∧ l ≤ 100 ∧ ∀ H', Same H H' → Q (.bl true) H'
def sp_empty : Sp := fun vs H Q _ => ∃ room : Nat, vs = [.int (room : Int)] ∧ 3 ≤ room ∧ room ≤ 8 ∧ ∀ (H' : Hp) (a : Addr), Same H H' → TreeAt H' (.ref a) room 1 [(1, .leaf [] 0)] → Q (.ref a) H'
theorem ok_empty (T : TX K mg) : FnOk P w K mg base CX0 5 (He.ga K "empty") T.fd_empty ["room"] sp_empty := by
  have G_need_room : FnOk P w K mg base CX0 4 (He.ga K "need_room") T.fd_need_room ["thing"] sp_need_room := ok_need_room T
  have b_need_room := b_need_room T
  refine T.F_empty.ok sc_empty (fun vs H Q E h => ?_) (fun cdv A outer st H vs Q E hr h => ?_)
  · obtain ⟨n, rfl, _⟩ := h
    rfl
  · obtain ⟨room, rfl, r3, r8, kq⟩ := h
    refine ⟨_, PSs.nox (pss_cons (ps_expr (pe_call G_need_room (hr.mono (by first | decide | omega)) rfl T.g_need_room T.F_need_room.kp b_need_room .nil pass0 (pa_cons (pv 0) pa_nil)))
 (pss_one (ps_ret (pe_tup (pa_cons (pv 0) (pa_cons pe_int (pa_cons (RU.pe_tupS (pa_cons (pe_tup (pa_cons pe_int (pa_cons (pe_tup (pa_cons pe_str (pa_cons (RU.pe_tupS pa_nil) (pa_cons pe_int pa_nil)))) pa_nil))) pa_nil)) pa_nil))))))), ?_⟩
    refine ⟨_, rfl, (room : Int), rfl, by omega, by omega, ?_⟩
    refine ⟨_, rfl, Nat.zero_le _, fun q1 H1 s1 n1 h1 => ⟨by show 3 ≤ sizeLine; decide, fun q2 hq2 => ⟨by show 2 ≤ sizeLine; decide, fun q3 hq3 => ⟨by show 1 ≤ sizeLine; decide, fun q4 H4 s4 n4 h4 => ⟨by show 3 ≤ sizeLine; decide, fun q5 hq5 => ?_⟩⟩⟩⟩⟩
    have s2 : Same H1 (upd H1 q2 (.tup [.str "leaf", .ref q1, .int 0])) := same_new hq2
    have h2 : upd H1 q2 (.tup [.str "leaf", .ref q1, .int 0]) q2 = some (.tup [.str "leaf", .ref q1, .int 0]) := upd_same
    have s3 := same_new (o := .tup [.int 1, .ref q2]) hq3
    have h3 : upd (upd H1 q2 (.tup [.str "leaf", .ref q1, .int 0])) q3 (.tup [.int 1, .ref q2]) q3 = some (.tup [.int 1, .ref q2]) := upd_same
    have s5 : Same H4 (upd H4 q5 (.tup [.int (room : Int), .int 1, .ref q4])) := same_new hq5
    have s35 := (s3.trans s4).trans s5
    obtain ⟨o4, h41, h42⟩ := h4
    refine kq _ q5 (((s1.trans s2).trans s35)) ⟨q5, q4, o4, [.ref q3], rfl, upd_same, s5 _ _ h41, h42, .cons ⟨q3, .ref q2, rfl, s5 _ _ (s4 _ _ h3), ⟨q2, q1, rfl, s35 _ _ h2, [], ?_, .nil⟩⟩ .nil⟩
    exact FzT.same (s2.trans s35) h1
def sp_planted : Sp := fun vs H Q _ => ∃ (a : Addr) (room : Nat) (ps : List (Int × Int)), vs = [.ref a, .int (room : Int)] ∧ 3 ≤ room ∧ room ≤ 8 ∧ PrT H a ps ∧ (∀ q ∈ ps, GoodPr q) ∧ ps.length ≤ 900 ∧
  ∀ (H' : Hp) (v : V) (l : Nat) (t : Tr l) (S : List (Int × Pg)), Same H H' → Plant room ps.reverse l t S → prs l t = plantP ps.reverse → TreeAt H' v room (num l t) S → Q v H'
theorem ok_planted (T : TX K mg) : FnOk P w K mg base CX0 13 (He.ga K "planted") T.fd_planted ["pairs", "room"] sp_planted := by
  have G_need_room : FnOk P w K mg base CX0 4 (He.ga K "need_room") T.fd_need_room ["thing"] sp_need_room := ok_need_room T
  have b_need_room := b_need_room T
  have G_are_pairs : FnOk P w K mg base CX0 5 (He.ga K "are_pairs") T.fd_are_pairs ["thing"] sp_are_pairs := ok_are_pairs T
  have b_are_pairs := b_are_pairs T
  have G_empty : FnOk P w K mg base CX0 5 (He.ga K "empty") T.fd_empty ["room"] sp_empty := ok_empty T
  have kb_empty := kb_empty T
  have G_Book_init : FnOk P w K mg base CX0 2 (He.ma K (He.ga K "Book") "__init__") T.fd_Book_init ["self", "tree"] (sp_Book_init K) := ok_Book_init T
  have b_Book_init := b_Book_init T
  have G_put_in : FnOk P w K mg base CX0 5 (He.ga K "put_in") T.fd_put_in ["book", "key", "value"] (sp_put_in K) := ok_put_in T
  have b_put_in := b_put_in T
  have G_Book_tree : FnOk P w K mg base CX0 1 (He.ma K (He.ga K "Book") "tree") T.fd_Book_tree ["self"] (sp_Book_tree K) := ok_Book_tree T
  have b_Book_tree := b_Book_tree T
  refine T.F_planted.ok sc_planted (fun vs H Q E h => ?_) (fun cdv A outer st H vs Q E hr h => ?_)
  · obtain ⟨a, room, ps, rfl, _⟩ := h
    rfl
  · obtain ⟨a, room, ps, rfl, r3, r8, ha, hgood, hlen, kq⟩ := h
    refine ⟨_, PSs.nox (pss_cons (ps_expr (pe_call G_need_room (hr.mono (by first | decide | omega)) rfl T.g_need_room T.F_need_room.kp b_need_room .nil pass0 (pa_cons (pv 1) pa_nil)))
 (pss_cons (ps_if (pt_not (pt_val (pe_call G_are_pairs (hr.mono (by first | decide | omega)) rfl T.g_are_pairs T.F_are_pairs.kp b_are_pairs .nil pass0 (pa_cons (pv 0) pa_nil))))
 (pss_one ps_never)
 pss_nil)
 (pss_cons (ps_set (i := 2) sc_planted.nd rfl (Or.inl rfl) (pe_make T.mk_Book G_Book_init (hr.mono (by first | decide | omega)) rfl T.g_Book b_Book_init .nil pass0 (pa_cons (RP.kw_only G_empty (hr.mono (by first | decide | omega)) rfl T.g_empty T.F_empty.kp kb_empty pass0 (pk_cons (pv 1) pk_nil)) pa_nil)))
 (pss_cons (ps_for PassesOwn.never rfl (pi_tup (pv 0)) (pg_tup rfl (pgs_cons (pg_name (i := 3) sc_planted.nd rfl (Or.inl rfl)) (pgs_cons (pg_name (i := 4) sc_planted.nd rfl (Or.inl rfl)) pgs_nil)))
 (pss_one (ps_expr (pe_call G_put_in (hr.mono (by first | decide | omega)) rfl T.g_put_in T.F_put_in.kp b_put_in .nil pass0 (pa_cons (pv 2) (pa_cons (pv 3) (pa_cons (pv 4) pa_nil)))))))
 (pss_one (ps_ret (pe_meth0 (pv 2) T.cl_Book T.m_Book_tree G_Book_tree (hr.mono (by first | decide | omega)) b_Book_tree .nil pass0))))))), ?_⟩
    refine ⟨_, rfl, (room : Int), rfl, by omega, by omega, ?_⟩
    refine ⟨_, rfl, a, ps, rfl, ha, hgood, by omega, fun H1 s1 => ⟨true, rfl, iteF ?_⟩⟩
    refine ⟨_, rfl, rfl, rfl, room, rfl, r3, r8, fun H2 v2 s2 hv2 => ?_⟩
    obtain ⟨pl0, pp0⟩ := plant_nil r3 r8
    refine fun x dx hx hdx nex => ?_
    have hx0 : H2 x = none := hx
    have s3 : Same H2 (upd (upd H2 dx (.own x)) x (.ins (He.ga K "Book") dx [])) := fun b o e => by
      rw [upd_ne (ne_of_none e hx), upd_ne (ne_of_none e hdx)]
      exact e
    refine ⟨x, dx, .ref v2, room, 0, lfT 1 [], _, rfl, upd_same, ⟨pl0.tree, hv2.same s3⟩, fun H3 d b3 hs3 hd3 hdn => ⟨rfl, ?_⟩⟩
    have hdn2 : H2 d = none := by
      cases z : H2 d with
      | none => rfl
      | some o => exact absurd (s3 _ _ z) (by rw [hdn]; simp)
    have s23 : Same H2 H3 := fun b o e => b3 b o (ne_of_none e hx) (s3 b o e)
    have sH2 := s1.trans s2
    have hxH : H x = none := Same.free sH2 hx0
    have hdH : H d = none := Same.free sH2 hdn2
    obtain ⟨xs, hxa, hxp⟩ := id ha
    refine ⟨_, rfl, a, rfl, ⟨_, (hxa.same (sH2.trans s23)).sq⟩, ?_⟩
    refine for_tup (xs := xs) (fun i σ H' => ∃ (v3 v4 : Option V) (l : Nat) (t : Tr l) (S D : List (Int × Pg)), σ = [some (.ref a), some (.int (room : Int)), some (.ref x), v3, v4] ∧ Same H H' ∧ Bk K H' x dx (room : Int) (num l t) (((room + 1) / 2 : Nat) : Int) d ∧ DctAt H' d D ∧ Plant room (ps.take i).reverse l t S ∧ prs l t = plantP (ps.take i).reverse ∧ S.Perm D)
      ⟨_, _, 0, lfT 1 [], _, _, rfl, sH2.trans s23, hs3, hd3, pl0, pp0, List.Perm.refl _⟩ (fun i σ H' _ z => ?_) ?_ ?_
    · obtain ⟨_, _, _, _, _, _, _, s', _⟩ := z
      exact (hxa.same s').sq
    · rintro i y σ H4 hy ⟨v3, v4, l, t, S, D, rfl, s4, hs4, hd4, hP, hpr, hSD⟩
      obtain ⟨q, hq, tq, rfl, htq⟩ := pget1 hxp hy
      have hi : i < ps.length := (List.getElem?_eq_some_iff.mp hq).1
      refine ⟨tq, _, rfl, SqT.of (s4 _ _ htq), rfl, _, _, rfl, _, _, rfl, rfl, ?_⟩
      have gq := hgood q (List.mem_of_getElem? hq)
      have hT := hP.tree
      have hpd : (D.map (·.1)).Perm (nums l t) := (hSD.map (·.1)).symm.trans hT.perm
      have ndD : (D.map (·.1)).Nodup := hpd.nodup_iff.mpr hT.nodup
      obtain ⟨u, nx, hu, hm, hg⟩ := leaf_ex hT q.1
      have hgD : lkp D (num 0 u) = some (.leaf u.ps nx) := by rw [← lkp_perm ndD hSD]; exact hg
      have tl : (ps.take i).reverse.length ≤ 900 := by rw [List.length_reverse, List.length_take]; omega
      have ll := Plant.low hT hpr tl
      have hul : u.ps.length ≤ room := lfs_few hT.wf u hm
      refine ⟨_, rfl, _, rfl, _, rfl, x, dx, d, room, l, q.1, q.2, t, D, u, nx, rfl, hs4, hd4, hT.laid.congr (fun k => (lkp_perm ndD hSD k).symm), hT.keyOk, hT.few, by omega, ?_, hu, hgD, hT.rising.sublist (lfs_ps_sub hm), by omega, r3, r8, put_upD hT hSD hu hm hgD, fun H5 f5 hs5 hd5 => ?_⟩
      · have := tree_few hT
        have := hSD.length_eq
        omega
      obtain ⟨q1, q2⟩ := putD_perm (room := room) (l := l) (t := t) (u := u) (nx := nx) (key := q.1) (value := q.2) hSD ndD
      have ndS : (S.map (·.1)).Nodup := (hSD.map (·.1)).nodup_iff.mpr ndD
      obtain ⟨l2, t2, S2, hP2, hpr2, hn2, hSD2⟩ : ∃ (l2 : Nat) (t2 : Tr l2) (S2 : List (Int × Pg)), Plant room (q :: (ps.take i).reverse) l2 t2 S2 ∧ prs l2 t2 = plantP (q :: (ps.take i).reverse) ∧ num l2 t2 = (putD room l t S u nx q.1 q.2).2 ∧ S2.Perm (putD room l t S u nx q.1 q.2).1 := by
        have nd2 : ((putD room l t S u nx q.1 q.2).1.map (·.1)).Nodup := putD_nodup hT hu hg gq
        obtain ⟨S2, h1, h2⟩ := sort_ex _ nd2
        obtain ⟨l2, t2, z1, z2, z3⟩ := Plant.step hP hpr gq tl hu hg h1 h2
        exact ⟨l2, t2, S2, z1, z2, z3, h1⟩
      have et : (ps.take (i + 1)).reverse = q :: (ps.take i).reverse := by
        rw [take_more hq, List.reverse_append]
        rfl
      refine ⟨_, _, l2, t2, S2, _, rfl, fun b o e => f5 _ _ (ne_of_none e hdH) (ne_of_none e hxH) (s4 _ _ e), ?_, hd5, by rw [et]; exact hP2, by rw [et]; exact hpr2, hSD2.trans q1⟩
      rw [hn2, q2]
      exact hs5
    · rintro σ H4 ⟨v3, v4, l, t, S, D, rfl, s4, hs4, hd4, hP, hpr, hSD⟩
      rw [hxp.length, List.take_length] at hP hpr
      refine ⟨_, rfl, x, dx, _, rfl, hs4, bfs_no (by decide +kernel) (by decide +kernel) (by decide +kernel) (by decide +kernel), ?_⟩
      refine ⟨x, dx, d, _, _, _, _, rfl, hs4, hd4, fun H5 b S' s5 hA5 hp5 ho5 => ?_⟩
      have e := sorted_uniq (hp5.trans hSD.symm) ho5 hP.tree.sorted
      subst e
      exact kq H5 _ l t S' (s4.trans s5) hP hpr hA5
end
end K29

namespace K29
open PySem PySem.Spec PyProof.Rows L2 RZ HX TR
theorem sqT_kp {K : PySem.W.Frag} {H H' : Hp} {a : Addr} {xs : List V} (k : Keep H H') (h : SqT K H a xs) : SqT K H' a xs := by
  rcases h with (h | ⟨o, h⟩) | h
  · exact .inl (.inl (k _ _ h))
  · exact .inl (.inr ⟨o, k.frz h⟩)
  · exact .inr h
/-! shapes, as data; their heights and pairs -/
def shD : (l : Nat) → Sh l → PyData
  | 0, n => .int (n.n : Int)
  | l + 1, ks => .tuple (ks.ks.map (shD l))
theorem dpAll_sh {K : PySem.W.Frag} {H : Hp} {α : Type} {R : V → α → Prop} {f : α → PyData} (h : ∀ x y, R x y → Dp K H x (f y)) : ∀ {xs : List V} {ys : List α}, Paired R xs ys → DpAll K H xs (ys.map f)
  | _, _, .nil => .nil
  | _, _, .cons r rs => .cons (h _ _ r) (dpAll_sh h rs)
theorem sh_dp {K : PySem.W.Frag} {H : Hp} : ∀ {l : Nat} {v : V} {s : Sh l}, ShAt H l v s → Dp K H v (shD l s)
  | 0, _, _, e => by
    rw [show _ = _ from e]
    exact .int _
  | l + 1, _, s, ⟨a, xs, e, ha, h⟩ => by
    subst e
    exact .tup (SqT.of ha) (dpAll_sh (fun _ _ r => sh_dp r) h)
theorem lay_all {ds : List PyData} {n : Nat} (h : ∀ d ∈ ds, d.canLay0 = true ∧ d.depth ≤ n) : PyData.canLayAll0 ds = true ∧ PyData.depthAll ds ≤ n := by
  induction ds with
  | nil => exact ⟨by simp only [PyData.canLayAll0], by simp only [PyData.depthAll]; exact Nat.zero_le _⟩
  | cons d ds ih =>
    obtain ⟨a, b⟩ := h d (List.mem_cons_self ..)
    obtain ⟨c, e⟩ := ih fun x hx => h x (List.mem_cons_of_mem _ hx)
    refine ⟨by simp only [PyData.canLayAll0, a, c, Bool.and_self], ?_⟩
    simp only [PyData.depthAll]
    omega
theorem sh_lay : ∀ {l : Nat} {s : Sh l}, (shD l s).canLay0 = true ∧ (shD l s).depth ≤ l
  | 0, s => ⟨by simp only [shD, PyData.canLay0], by simp only [shD, PyData.depth]; exact Nat.le_refl _⟩
  | l + 1, s => by
    have z := lay_all (ds := s.ks.map (shD l)) (n := l) fun d hd => by
      obtain ⟨k, _, rfl⟩ := List.mem_map.mp hd
      exact sh_lay
    refine ⟨by simp only [shD, PyData.canLay0]; exact z.1, ?_⟩
    simp only [shD, PyData.depth]
    have := z.2
    omega
theorem sh_shaped {l : Nat} {s : Sh l} (h : l ≤ 60) : SeqAt.shaped (shD l s) = true := by
  unfold SeqAt.shaped
  rw [sh_lay.1, Bool.true_and, decide_eq_true_eq]
  have := (sh_lay (s := s)).2
  omega
theorem eqv_shs {l : Nat} (ih : ∀ {a b : Sh l}, PyData.eqv (shD l a) (shD l b) = true → a = b) : ∀ {as bs : List (Sh l)}, PyData.eqvAll (as.map (shD l)) (bs.map (shD l)) = true → as = bs
  | [], [], _ => rfl
  | [], _ :: _, h => by simp [PyData.eqvAll] at h
  | _ :: _, [], h => by simp [PyData.eqvAll] at h
  | a :: as, b :: bs, h => by
    simp only [List.map_cons, PyData.eqvAll, Bool.and_eq_true] at h
    rw [ih h.1, eqv_shs ih h.2]
theorem eqv_sh : ∀ {l : Nat} {a b : Sh l}, PyData.eqv (shD l a) (shD l b) = true → a = b
  | 0, a, b, h => by
    simp only [shD, PyData.eqv, beq_iff_eq, decide_eq_true_eq] at h
    exact Int.ofNat.inj h
  | l + 1, a, b, h => by
    simp only [shD, PyData.eqv] at h
    exact eqv_shs (fun h => eqv_sh h) h
/-- no node of the shape is empty -/
def PosS : (l : Nat) → Sh l → Prop
  | 0, _ => True
  | l + 1, s => s.ks ≠ [] ∧ ∀ k ∈ s.ks, PosS l k
theorem posS {room : Nat} (r3 : 3 ≤ room) : ∀ {l : Nat} {top : Bool} {s : Sh l}, WfSh room l top s → PosS l s
  | 0, _, _, _ => trivial
  | l + 1, top, s, ⟨h1, _, h3⟩ => by
    refine ⟨fun e => ?_, fun k hk => posS r3 (h3 k hk)⟩
    rw [e] at h1
    have e1 : 2 ≤ loS room (l + 1) top := by
      cases top with
      | true => exact Nat.le_refl 2
      | false => show 2 ≤ (room + 1) / 2; omega
    simp only [List.length_nil] at h1
    omega
section
variable {P : Program} {w : World} {K : PySem.W.Frag} {mg : Str → Option Value} {base : Heap}
def sp_is_whole_sh : Sp := fun vs H Q _ => ∃ (l : Nat) (v : V) (s : Sh l), vs = [v] ∧ ShAt H l v s ∧ Q (.bl (decide (l = 0))) H
theorem ok_is_whole_sh (T : TX K mg) : FnOk P w K mg base CX0 1 (He.ga K "is_whole") T.fd_is_whole ["thing"] sp_is_whole_sh := by
  refine T.F_is_whole.ok sc_is_whole (fun vs H Q E h => ?_) (fun cdv A outer st H vs Q E hr h => ?_)
  · obtain ⟨l, v, s, rfl, _⟩ := h
    rfl
  · obtain ⟨l, v, s, rfl, hs, kq⟩ := h
    refine ⟨_, PSs.nox (pss_one (ps_ret (pe_and (pe_callB call_isi rfl T.n_isinstance (by decide +kernel) (pa_cons (pv 0) (pa_cons (pe_ty "int" T.n_int (by decide +kernel)) pa_nil))) (pe_one (pe_not (pe_callB call_isi rfl T.n_isinstance (by decide +kernel) (pa_cons (pv 0) (pa_cons (pe_ty "bool" T.n_bool (by decide +kernel)) pa_nil)))))))), ?_⟩
    cases l with
    | zero =>
      obtain rfl : v = .int (s.n : Int) := hs
      refine ⟨_, rfl, _, _, .type "int", .type "int", true, rfl, .ty "int", .base (.int _), kit_ty (by decide +kernel), true, rfl, ?_⟩
      refine iteT ?_
      exact ⟨_, rfl, _, _, .type "int", .type "bool", false, rfl, .ty "bool", .base (.int _), kit_ty (by decide +kernel), _, rfl, kq⟩
    | succ l =>
      obtain ⟨a, xs, rfl, ha, _⟩ := hs
      refine ⟨_, rfl, _, _, .type "tuple", .type "int", false, rfl, .ty "int", .base (.tup ha), kit_ty (by decide +kernel), false, rfl, ?_⟩
      exact iteF kq
def sp_kid_h (N : Nat) : Sp := fun vs H Q _ => ∃ (v : V) (room l : Nat) (s : Sh l), vs = [v, .int (room : Int)] ∧ l < N ∧ 3 ≤ room ∧ room ≤ 8 ∧ ShAt H l v s ∧ WfSh room l false s ∧ l ≤ 50 ∧
  ∀ H', Same H H' → Q (.int ((l + 1 : Nat) : Int)) H'
def sp_node_h (N : Nat) : Sp := fun vs H Q _ => ∃ (v : V) (room least l : Nat) (s : Sh (l + 1)), vs = [v, .int (least : Int), .int (room : Int)] ∧ l < N ∧ 3 ≤ room ∧ room ≤ 8 ∧ ShAt H (l + 1) v s ∧ 1 ≤ least ∧ least ≤ s.ks.length ∧ s.ks.length ≤ room ∧ (∀ k ∈ s.ks, WfSh room l false k) ∧ l ≤ 50 ∧
  ∀ H', Same H H' → Q (.int ((l + 2 : Nat) : Int)) H'
def sp_shape_h : Sp := fun vs H Q _ => ∃ (v : V) (room l : Nat) (s : Sh l), vs = [v, .int (room : Int)] ∧ l ≤ 8 ∧ 3 ≤ room ∧ room ≤ 8 ∧ ShAt H l v s ∧ WfSh room l true s ∧
  ∀ H', Same H H' → Q (.int ((l + 1 : Nat) : Int)) H'
def sp_need_shape : Sp := fun vs H Q _ => ∃ (v : V) (room l : Nat) (s : Sh l), vs = [v, .int (room : Int)] ∧ l ≤ 8 ∧ 3 ≤ room ∧ room ≤ 8 ∧ ShAt H l v s ∧ WfSh room l true s ∧
  ∀ H', Same H H' → Q .non H'
/-! pairs in a shape -/
def sp_pairs_in_shape (N : Nat) : Sp := fun vs H Q _ => ∃ (v : V) (l : Nat) (s : Sh l), vs = [v] ∧ l < N ∧ ShAt H l v s ∧ l ≤ 50 ∧ PosS l s ∧
  ∀ H', Same H H' → Q (.int ((cntS l s : Nat) : Int)) H'
end
end K29

namespace K29
open PySem PySem.Spec PyProof.Rows L2 RZ HX TR RP EQT
theorem paired_mapr {α β γ : Type} {R : α → γ → Prop} {f : β → γ} : ∀ {xs : List α} {ys : List β}, Paired (fun x y => R x (f y)) xs ys → Paired R xs (ys.map f)
  | _, _, .nil => .nil
  | _, _, .cons r rs => .cons r (paired_mapr rs)
section
variable {P : Program} {w : World} {K : PySem.W.Frag} {mg : Str → Option Value} {base : Heap}
def sp_shape_beneath (N : Nat) : Sp := fun vs H Q _ => ∃ (l room : Nat) (top : Bool) (t : Tr l) (d : Addr) (S : List (Int × Pg)), vs = [.ref d, .int (num l t)] ∧ l < N ∧ DctAt H d S ∧ Laid S l t ∧ room ≤ 8 ∧ WfSh room l top (shp l t) ∧
  ∀ (H' : Hp) (v : V), Same H H' → ShAt H' l v (shp l t) → Q v H'
theorem ok_shape_beneath (T : TX K mg) : ∀ N : Nat, FnOk P w K mg base CX0 (N + 1) (He.ga K "shape_beneath") T.fd_shape_beneath ["pages", "number"] (sp_shape_beneath N) := by
  intro N
  induction N with
  | zero =>
    refine T.F_shape_beneath.ok sc_shape_beneath (fun vs H Q E h => ?_) (fun cdv A outer st H vs Q E hr h => ?_)
    · obtain ⟨l, room, top, t, d, S, rfl, _⟩ := h
      rfl
    · obtain ⟨l, room, top, t, d, S, rfl, hl, _⟩ := h
      omega
  | succ N ih =>
    have G_shape_beneath := ih
    have b_shape_beneath := b_shape_beneath T
    refine T.F_shape_beneath.ok sc_shape_beneath (fun vs H Q E h => ?_) (fun cdv A outer st H vs Q E hr h => ?_)
    · obtain ⟨l, room, top, t, d, S, rfl, _⟩ := h
      rfl
    · obtain ⟨l, room, top, t, d, S, rfl, hl, hd, hL, r8, wf, kq⟩ := h
      refine ⟨_, PSs.nox (pss_cons (ps_asg (pe_dget (hu_of hr) (pv 0) (pv 1) (fun _ _ => rfl)) (pg_tup rfl (pgs_cons (pg_name (i := 2) sc_shape_beneath.nd rfl (Or.inl rfl)) (pgs_cons (pg_name (i := 3) sc_shape_beneath.nd rfl (Or.inl rfl)) (pgs_cons (pg_name (i := 4) sc_shape_beneath.nd rfl (Or.inl rfl)) pgs_nil)))))
 (pss_cons (ps_if (pt_cmpR op_eq (pv 2) pe_str (nomark _))
 (pss_one (ps_ret (pe_callB call_len_seq rfl T.n_len PySem.boot_len (pa_cons (pe_ix ix_tup (pe_dget (hu_of hr) (pv 0) (pv 1) (fun _ _ => rfl)) pe_int (fun _ _ => rfl)) pa_nil))))
 pss_nil)
 (pss_one (ps_ret (pe_callTy call_tuple_of rfl T.n_tuple (by decide +kernel) (pa_cons (pe_lc (own := [("kid", 5)]) (g := gName 5) (tt := tYes) rfl sc_shape_beneath.nd (pi_tup (pv 4)) (blkOk_by (own := [("kid", 5)]) (N := ["pages", "number", "kind", "_", "kids", "kid"]) (sc := defScope s_shape_beneath) (by decide +kernel)) (fun _ _ _ _ _ => (pg_name (i := 5) sc_shape_beneath.nd rfl (Or.inl rfl))) (fun _ _ _ _ _ => pts_nil) (fun _ _ _ _ _ => (pe_call G_shape_beneath (hr.mono (by first | decide | omega)) rfl T.g_shape_beneath T.F_shape_beneath.kp b_shape_beneath .nil pass0 (pa_cons (pv 0) (pa_cons (pv 5) pa_nil))))) pa_nil)))))), ?_⟩
      cases l with
      | zero =>
        obtain ⟨nx, hk⟩ := hL
        obtain ⟨v, hv, t1, q, rfl, ht1, xs, hq, hpx⟩ := hd.get hk
        refine ⟨_, rfl, _, rfl, d, _, rfl, hv, t1, _, rfl, SqT.of ht1, rfl, _, _, rfl, _, _, rfl, _, _, rfl, rfl, ?_⟩
        refine ⟨_, rfl, rfl, _, rfl, iteT ?_⟩
        refine ⟨_, rfl, _, rfl, d, _, rfl, hv, t1, _, 1, _, rfl, rfl, SqT.of ht1, rfl, q, _, rfl, .inr hq.sq, ?_⟩
        rw [hpx.length]
        exact kq H _ (Same.refl H) rfl
      | succ l =>
        obtain ⟨hk, hks⟩ := hL
        obtain ⟨v, hv, t1, q1, q2, rfl, ht1, _, hq2⟩ := hd.get hk
        obtain ⟨w1, w2, w3⟩ := wf
        have kl : t.kids.length ≤ 8 := by
          have e : (shp (l + 1) t).ks.length = t.kids.length := by
            show (t.kids.map (shp l)).length = _
            rw [List.length_map]
          omega
        refine ⟨_, rfl, _, rfl, d, _, rfl, hv, t1, _, rfl, SqT.of ht1, rfl, _, _, rfl, _, _, rfl, _, _, rfl, rfl, ?_⟩
        refine ⟨_, rfl, rfl, _, rfl, iteF ?_⟩
        refine ⟨_, rfl, q2, rfl, ⟨_, hq2.sq⟩, fun L hL0 => ?_⟩
        refine lc_it (walk_tup (xs := (t.kids.map (num l)).map V.int)) (fun j H' => Same H H' ∧ ∃ xs, H' L = some (.lst xs) ∧ xs.length = j ∧ Paired (fun x k => ShAt H' l x (shp l k)) xs (t.kids.take j)) ⟨same_new hL0, [], upd_same, rfl, .nil⟩ (fun j H' _ z => (FzT.same z.1 hq2).sq) ?_ ?_
        · rintro j x H3 H4 hj ⟨s3, xs, hL3, ej, hpx⟩ ⟨rfl, hx⟩
          obtain ⟨n, hn, rfl⟩ := map_at hx
          obtain ⟨k, hk', rfl⟩ := map_at hn
          have mk := List.mem_of_getElem? hk'
          refine ⟨rfl, ?_⟩
          dsimp only [tYes]
          rw [if_pos rfl]
          refine ⟨_, rfl, _, rfl, l, room, false, k, d, S, rfl, by omega, hd.same s3, hks k mk, r8, w3 (shp l k) (List.mem_map_of_mem mk), fun H5 v5 s5 hv5 => ?_⟩
          have hL5 := s5 _ _ hL3
          have k6 : Keep H5 (upd H5 L (.lst (xs ++ [v5]))) := (Keep.refl _).upd fun zs e => by rw [hL5] at e; cases e; rfl
          refine ⟨xs, hL5, ?_, same_upd (s3.trans s5) hL0, xs ++ [v5], upd_same, by rw [List.length_append, ej]; rfl, ?_⟩
          · rw [ej]
            exact Nat.lt_of_le_of_lt (by have := (List.getElem?_eq_some_iff.mp hk').1; omega : _ ≤ 8) (by decide)
          · rw [take_more hk']
            exact paired_snoc (R := fun x (k : Tr l) => ShAt _ l x (shp l k)) (ShAt.keep k6 hv5) (paired_imp (R := fun x (k : Tr l) => ShAt H4 l x (shp l k)) (fun _ _ r => ShAt.keep ((Keep.of s5).trans k6) r) hpx)
        · rintro H3 ⟨s3, xs, hL3, ej, hpx⟩
          rw [List.take_of_length_le (by rw [List.length_map, List.length_map]; exact Nat.le_refl _)] at hpx
          refine ⟨L, _, rfl, .inl ⟨SqL.of hL3, fun a ha => ?_⟩⟩
          have s4 : Same H3 (upd H3 a (.tup xs)) := same_new ha
          refine kq _ _ (s3.trans s4) ⟨a, xs, rfl, upd_same, ?_⟩
          exact paired_mapr (paired_imp (R := fun x (k : Tr l) => ShAt H3 l x (shp l k)) (fun _ _ r => ShAt.keep (Keep.of s4) r) hpx)
def sp_shape_of : Sp := fun vs H Q _ => ∃ (v : V) (room l : Nat) (t : Tr l) (S : List (Int × Pg)), vs = [v] ∧ SndAt H v room l t S ∧ l ≤ 8 ∧
  ∀ (H' : Hp) (v : V), Same H H' → ShAt H' l v (shp l t) → Q v H'
theorem ok_shape_of (T : TX K mg) : FnOk P w K mg base CX0 13 (He.ga K "shape_of") T.fd_shape_of ["tree"] sp_shape_of := by
  have G_need_tree : FnOk P w K mg base CX0 12 (He.ga K "need_tree") T.fd_need_tree ["thing"] sp_need_tree := ok_need_tree T
  have b_need_tree := b_need_tree T
  have G_shape_beneath : FnOk P w K mg base CX0 10 (He.ga K "shape_beneath") T.fd_shape_beneath ["pages", "number"] (sp_shape_beneath 9) := ok_shape_beneath T 9
  have b_shape_beneath := b_shape_beneath T
  refine T.F_shape_of.ok sc_shape_of (fun vs H Q E h => ?_) (fun cdv A outer st H vs Q E hr h => ?_)
  · obtain ⟨v, room, l, t, S, rfl, _⟩ := h
    rfl
  · obtain ⟨v, room, l, t, S, rfl, hsnd, hl, kq⟩ := h
    refine ⟨_, PSs.nox (pss_cons (ps_expr (pe_call G_need_tree (hr.mono (by first | decide | omega)) rfl T.g_need_tree T.F_need_tree.kp b_need_tree .nil pass0 (pa_cons (pv 0) pa_nil)))
 (pss_one (ps_ret (pe_call G_shape_beneath (hr.mono (by first | decide | omega)) rfl T.g_shape_beneath T.F_shape_beneath.kp b_shape_beneath .nil pass0 (pa_cons (pe_callTy (RU.call_dictT rfl) rfl T.n_dict (by decide +kernel) (pa_cons (pe_ix ix_tup (pv 0) pe_int (fun _ _ => rfl)) pa_nil)) (pa_cons (pe_ix ix_tup (pv 0) pe_int (fun _ _ => rfl)) pa_nil)))))), ?_⟩
    refine ⟨_, rfl, v, room, l, t, S, rfl, hsnd, by omega, fun H1 s1 => ?_⟩
    obtain ⟨a, b, o, xs, ev, ha, hb, ho, hx⟩ := hsnd.at_.same s1
    subst ev
    have h := hsnd.tree
    have ndS : (S.map (·.1)).Nodup := h.perm.nodup_iff.mpr h.nodup
    obtain ⟨ps, kvs, e, p1, p2, p3⟩ := num_pairs (K := K) hx
    subst e
    refine ⟨_, rfl, a, _, _, _, rfl, rfl, SqT.of ha, rfl, b, o, ps, kvs, rfl, hb, ho, p1, fun d hd0 => ?_⟩
    obtain ⟨s2, hd⟩ := pages_dict p2 p3 ndS hd0
    generalize upd H1 d (.dK (mergeK [] kvs)) = H2 at s2 hd
    refine ⟨_, rfl, a, _, _, _, rfl, rfl, SqT.of (s2 _ _ ha), rfl, l, room, true, t, d, S, rfl, by omega, hd, h.laid, h.r8, h.wf, fun H3 v3 s3 h3 => kq H3 v3 ((s1.trans s2).trans s3) h3⟩
end
end K29

namespace K29
open PySem PySem.Spec PyProof.Rows L2 RZ HX TR RP
/-! ### a drop keeps a tree a tree: plain mathematics -/
def partsT : (l : Nat) → Tr l → Nat
  | 0, t => t.ps.length
  | _ + 1, t => t.kids.length
/-- two neighbours as one -/
def joinT : (l : Nat) → Tr l → Int → Tr l → Tr l
  | 0, a, _, b => lfT (num 0 a) (a.ps ++ b.ps)
  | l + 1, a, k, b => ndT (num (l + 1) a) (a.keys ++ k :: b.keys) (a.kids ++ b.kids)
/-- one as two -/
def cutT : (l : Nat) → Nat → Int → Tr l → Tr l × Int × Tr l
  | 0, c, n, w => (lfT (num 0 w) (w.ps.take c), (w.ps.getD c (0, 0)).1, lfT n (w.ps.drop c))
  | l + 1, c, n, w => (ndT (num (l + 1) w) (w.keys.take (c - 1)) (w.kids.take c), w.keys.getD (c - 1) 0, ndT n (w.keys.drop c) (w.kids.drop c))
/-- a node whose kid at j has too few parts -/
def mendT (half : Nat) {l : Nat} (n : Int) (ks : List Int) (kids : List (Tr l)) (j : Nat) : Tr (l + 1) :=
  match kids[j - 1]?, kids[j - 1 + 1]? with
  | some a, some b =>
    if half < partsT l (if j = 0 then b else a) then
      let z := cutT l (if j = 0 then partsT l a + 1 else partsT l a - 1) (num l b) (joinT l a (ks.getD (j - 1) 0) b)
      ndT n (ks.set (j - 1) z.2.1) (kids.take (j - 1) ++ z.1 :: z.2.2 :: kids.drop (j - 1 + 2))
    else ndT n (ks.eraseIdx (j - 1)) (kids.take (j - 1) ++ joinT l a (ks.getD (j - 1) 0) b :: kids.drop (j - 1 + 2))
  | _, _ => ndT n ks kids
def upT (half : Nat) {l : Nat} (t : Tr (l + 1)) (j : Nat) (y : Tr l) : Tr (l + 1) :=
  if half ≤ partsT l y then ndT (num (l + 1) t) t.keys (t.kids.set j y) else mendT half (num (l + 1) t) t.keys (t.kids.set j y) j
/-- the tree behind a drop, its root perhaps with too few parts -/
def delT (half : Nat) (key : Int) : (l : Nat) → Tr l → Tr l
  | 0, t => lfT (num 0 t) (t.ps.filter fun q => decide (q.1 ≠ key))
  | l + 1, t => match t.kids[placeOf t.keys key]? with
    | none => t
    | some x => upT half t (placeOf t.keys key) (delT half key l x)
def KidW (room : Nat) : (l : Nat) → Tr l → Prop
  | 0, _ => True
  | l + 1, t => ∀ k ∈ t.kids, WfSh room l false (shp l k)
theorem wf_of {room : Nat} : ∀ {l : Nat} {t : Tr l}, KidW room l t → (room + 1) / 2 ≤ partsT l t → partsT l t ≤ room → WfSh room l false (shp l t)
  | 0, t, _, h1, h2 => ⟨h1, h2⟩
  | l + 1, t, w, h1, h2 => ⟨by
      show (room + 1) / 2 ≤ (t.kids.map (shp l)).length
      rw [List.length_map]
      exact h1, by
      show (t.kids.map (shp l)).length ≤ room
      rw [List.length_map]
      exact h2, fun k hk => by
      obtain ⟨x, hx, rfl⟩ := List.mem_map.mp hk
      exact w x hx⟩
theorem wf_to {room : Nat} {tp : Bool} : ∀ {l : Nat} {t : Tr l}, WfSh room l tp (shp l t) → KidW room l t ∧ loS room l tp ≤ partsT l t ∧ partsT l t ≤ room
  | 0, t, ⟨h1, h2⟩ => ⟨trivial, h1, h2⟩
  | l + 1, t, ⟨h1, h2, h3⟩ => by
    have e : (shp (l + 1) t).ks.length = t.kids.length := List.length_map ..
    rw [e] at h1 h2
    exact ⟨fun k hk => h3 _ (List.mem_map_of_mem hk), h1, h2⟩
theorem keyB_lt1 {room : Nat} (r3 : 3 ≤ room) : ∀ {l : Nat} {t : Tr l} {lo hi : Int}, KeyB l t lo hi → KidW room l t → 1 ≤ partsT l t → lo < hi
  | 0, t, lo, hi, h, _, n => by
    have n' : 1 ≤ t.ps.length := n
    have e : t.ps[0]? = some (t.ps[0]'(by omega)) := List.getElem?_eq_getElem (by omega)
    have := h _ (List.mem_of_getElem? e)
    omega
  | l + 1, t, lo, hi, h, w, _ => (KBs.lt (R := KeyB l) h fun x hx a b hR => keyB_lt r3 hR (w x hx)).1
theorem KBs.join {α : Type} {R : α → Int → Int → Prop} {k v : Int} : ∀ {xs : List α} {ks : List Int} {u : Int}, KBs R u ks xs k → ∀ {ys : List α} {js : List Int}, KBs R k js ys v → KBs R u (ks ++ k :: js) (xs ++ ys) v
  | [], ks, _, h, _, _, _ => by cases ks <;> exact h.elim
  | [x], [], u, h, ys, js, h2 => ⟨h, h2⟩
  | _ :: _ :: _, [], _, h, _, _, _ => h.elim
  | x :: xs, b :: ks, u, ⟨h1, h2⟩, ys, js, g => ⟨h1, KBs.join h2 g⟩
theorem KBs.two {α : Type} {R : α → Int → Int → Prop} {hi : Int} : ∀ {kids : List α} {ks : List Int} {lo : Int}, KBs R lo ks kids hi → ∀ {i : Nat} {a b : α}, kids[i]? = some a → kids[i + 1]? = some b →
    ∃ u k v, ks[i]? = some k ∧ (lo :: ks)[i]? = some u ∧ (ks ++ [hi])[i + 1]? = some v ∧ R a u k ∧ R b k v ∧ (∀ a' k' b', R a' u k' → R b' k' v → KBs R lo (ks.set i k') (kids.take i ++ a' :: b' :: kids.drop (i + 2)) hi) ∧ (∀ w, R w u v → KBs R lo (ks.eraseIdx i) (kids.take i ++ w :: kids.drop (i + 2)) hi)
  | [], ks, _, h, _, _, _, _, _ => by cases ks <;> exact h.elim
  | [x], [], _, _, i, _, _, _, e => by simp at e
  | _ :: _ :: _, [], _, h, _, _, _, _, _ => h.elim
  | x :: rest, k1 :: ks, lo, ⟨h1, h2⟩, 0, a, b, ea, eb => by
    cases ea
    have eb' : rest[0]? = some b := eb
    cases rest with
    | nil => simp at eb'
    | cons y rest =>
      cases eb'
      cases ks with
      | nil =>
        cases rest with
        | nil => exact ⟨lo, k1, hi, rfl, rfl, rfl, h1, h2, fun a' k' b' ra rb => ⟨ra, rb⟩, fun w rw' => rw'⟩
        | cons z r => exact h2.elim
      | cons k2 ks =>
        obtain ⟨g1, g2⟩ := h2
        exact ⟨lo, k1, k2, rfl, rfl, rfl, h1, g1, fun a' k' b' ra rb => ⟨ra, rb, g2⟩, fun w rw' => ⟨rw', g2⟩⟩
  | x :: rest, k1 :: ks, lo, ⟨h1, h2⟩, i + 1, a, b, ea, eb => by
    obtain ⟨u, k, v, e1, e2, e3, ra, rb, f1, f2⟩ := KBs.two h2 (i := i) (a := a) (b := b) ea eb
    exact ⟨u, k, v, e1, e2, e3, ra, rb, fun a' k' b' q1 q2 => ⟨h1, f1 a' k' b' q1 q2⟩, fun w q => ⟨h1, f2 w q⟩⟩
theorem join_parts : ∀ {l : Nat} {a b : Tr l} {k : Int}, partsT l (joinT l a k b) = partsT l a + partsT l b
  | 0, _, _, _ => List.length_append
  | _ + 1, _, _, _ => List.length_append
theorem join_num : ∀ {l : Nat} {a b : Tr l} {k : Int}, num l (joinT l a k b) = num l a
  | 0, _, _, _ => rfl
  | _ + 1, _, _, _ => rfl
theorem join_prs : ∀ {l : Nat} {a b : Tr l} {k : Int}, prs l (joinT l a k b) = prs l a ++ prs l b
  | 0, _, _, _ => rfl
  | _ + 1, _, _, _ => List.flatMap_append
theorem join_kw {room : Nat} : ∀ {l : Nat} {a b : Tr l} {k : Int}, KidW room l a → KidW room l b → KidW room l (joinT l a k b)
  | 0, _, _, _, _, _ => trivial
  | l + 1, _, _, _, h, g => fun x hx => by
    rcases List.mem_append.mp hx with hx | hx
    · exact h x hx
    · exact g x hx
theorem join_kb : ∀ {l : Nat} {a b : Tr l} {u k v : Int}, KeyB l a u k → KeyB l b k v → u ≤ k → k ≤ v → KeyB l (joinT l a k b) u v
  | 0, a, b, u, k, v, h, g, h1, h2 => fun q hq => by
    rcases List.mem_append.mp hq with hq | hq
    · have := h q hq
      omega
    · have := g q hq
      omega
  | l + 1, a, b, u, k, v, h, g, _, _ => KBs.join (R := KeyB l) h g
theorem join_ok {room : Nat} (r3 : 3 ≤ room) : ∀ {l : Nat} {a b : Tr l} {u k v : Int}, KeyB l a u k → KeyB l b k v → KidW room l a → KidW room l b → KeyOk l a → KeyOk l b → 0 ≤ u → v ≤ 1000000001 → KeyOk l (joinT l a k b)
  | 0, _, _, _, _, _, _, _, _, _, _, _, _, _ => trivial
  | l + 1, a, b, u, k, v, h, g, wa, wb, oa, ob, u0, v1 => by
    refine KeyOk.of_kb r3 (KBs.join (R := KeyB l) h g) u0 v1 (fun x hx => ?_) fun x hx => ?_
    · exact join_kw (l := l + 1) (k := k) wa wb x hx
    · rcases List.mem_append.mp hx with hx | hx
      · exact oa.2.2.2 x hx
      · exact ob.2.2.2 x hx
structure CutOk' (room l : Nat) (w x y : Tr l) (c : Nat) (n u k v : Int) : Prop where
  kx : KeyB l x u k
  ky : KeyB l y k v
  wx : KidW room l x
  wy : KidW room l y
  ox : KeyOk l x
  oy : KeyOk l y
  px : partsT l x = c
  py : partsT l y = partsT l w - c
  pr : prs l x ++ prs l y = prs l w
  nx : num l x = num l w
  ny : num l y = n
theorem cut_ok {room : Nat} (r3 : 3 ≤ room) : ∀ {l : Nat} {w : Tr l} {c : Nat} {n u v : Int}, KeyB l w u v → KidW room l w → KeyOk l w → (prs l w).Pairwise (fun a b => a.1 < b.1) → 0 ≤ u → v ≤ 1000000001 → 1 ≤ c → c < partsT l w → CutOk' room l w (cutT l c n w).1 (cutT l c n w).2.2 c n u (cutT l c n w).2.1 v
  | 0, w, c, n, u, v, h, _, _, s, _, _, c1, c2 => by
    have c2' : c < w.ps.length := c2
    have s' : w.ps.Pairwise (fun a b => a.1 < b.1) := s
    obtain ⟨q, hq⟩ : ∃ q, w.ps[c]? = some q := ⟨_, List.getElem?_eq_getElem c2'⟩
    have eq : (w.ps.getD c (0, 0)).1 = q.1 := by
      rw [List.getD_eq_getElem?_getD, hq]
      rfl
    have ed : w.ps.drop c = q :: w.ps.drop (c + 1) := by
      obtain ⟨h1, h2⟩ := List.getElem?_eq_some_iff.mp hq
      rw [← h2]
      exact List.drop_eq_getElem_cons h1
    have sp : (w.ps.take c ++ w.ps.drop c).Pairwise (fun a b => a.1 < b.1) := by rw [List.take_append_drop]; exact s'
    obtain ⟨_, sp2, sp3⟩ := List.pairwise_append.mp sp
    refine ⟨fun p hp => ?_, fun p hp => ?_, trivial, trivial, trivial, trivial, ?_, ?_, List.take_append_drop .., rfl, rfl⟩
    · show u ≤ p.1 ∧ p.1 < (w.ps.getD c (0, 0)).1
      rw [eq]
      exact ⟨(h p (List.mem_of_mem_take hp)).1, sp3 p hp q (by rw [ed]; exact List.mem_cons_self ..)⟩
    · show (w.ps.getD c (0, 0)).1 ≤ p.1 ∧ p.1 < v
      rw [eq]
      refine ⟨?_, (h p (List.mem_of_mem_drop hp)).2⟩
      have hp' : p ∈ w.ps.drop c := hp
      rw [ed] at hp' sp2
      rcases List.mem_cons.mp hp' with rfl | hp'
      · exact Int.le_refl _
      · exact Int.le_of_lt ((List.pairwise_cons.mp sp2).1 p hp')
    · show (w.ps.take c).length = c
      rw [List.length_take]
      omega
    · show (w.ps.drop c).length = w.ps.length - c
      rw [List.length_drop]
  | l + 1, w, c, n, u, v, h, kw, ok, _, u0, v1, c1, c2 => by
    have c2' : c < w.kids.length := c2
    have h' : KBs (KeyB l) u w.keys w.kids v := h
    obtain ⟨k, hk, kb1, kb2⟩ := KBs.cut h' (n := c - 1) (by omega)
    rw [show c - 1 + 1 = c by omega] at kb1 kb2
    have ek : w.keys.getD (c - 1) 0 = k := by
      rw [List.getD_eq_getElem?_getD, hk]
      rfl
    have w1 : ∀ x ∈ w.kids.take c, WfSh room l false (shp l x) := fun x hx => kw x (List.mem_of_mem_take hx)
    have w2 : ∀ x ∈ w.kids.drop c, WfSh room l false (shp l x) := fun x hx => kw x (List.mem_of_mem_drop hx)
    have lt1 := (KBs.lt (R := KeyB l) kb1 fun x hx a b hR => keyB_lt r3 hR (w1 x hx)).1
    have lt2 := (KBs.lt (R := KeyB l) kb2 fun x hx a b hR => keyB_lt r3 hR (w2 x hx)).1
    show CutOk' room (l + 1) w (ndT (num (l + 1) w) (w.keys.take (c - 1)) (w.kids.take c)) (ndT n (w.keys.drop c) (w.kids.drop c)) c n u (w.keys.getD (c - 1) 0) v
    rw [ek]
    refine ⟨kb1, kb2, w1, w2, KeyOk.of_kb r3 kb1 u0 (by omega) w1 fun x hx => ok.2.2.2 x (List.mem_of_mem_take hx), KeyOk.of_kb r3 kb2 (by omega) v1 w2 fun x hx => ok.2.2.2 x (List.mem_of_mem_drop hx), ?_, ?_, ?_, rfl, rfl⟩
    · show (w.kids.take c).length = c
      rw [List.length_take]
      omega
    · show (w.kids.drop c).length = w.kids.length - c
      rw [List.length_drop]
    · show (w.kids.take c).flatMap (prs l) ++ (w.kids.drop c).flatMap (prs l) = w.kids.flatMap (prs l)
      rw [← List.flatMap_append, List.take_append_drop]
end K29

namespace K29
open PySem PySem.Spec PyProof.Rows L2 RZ HX TR RP
structure DelS (room l : Nat) (key : Int) (x y : Tr l) (lo hi : Int) (tp : Bool) : Prop where
  num : num l y = num l x
  kb : KeyB l y lo hi
  ok : KeyOk l y
  kw : KidW room l y
  lo_ : loS room l tp ≤ partsT l y + 1
  hi_ : partsT l y ≤ room
  pr : prs l y = (prs l x).filter fun q => decide (q.1 ≠ key)
theorem filter_len {key : Int} : ∀ {ps : List (Int × Int)}, ps.Pairwise (fun a b => a.1 < b.1) → ps.length ≤ (ps.filter fun q => decide (q.1 ≠ key)).length + 1
  | [], _ => Nat.zero_le _
  | a :: ps, h => by
    obtain ⟨h1, h2⟩ := List.pairwise_cons.mp h
    rw [List.filter_cons]
    by_cases c : a.1 = key
    · rw [if_neg (by simpa using c)]
      have e : ps.filter (fun q => decide (q.1 ≠ key)) = ps := List.filter_eq_self.mpr fun q hq => decide_eq_true (by have := h1 q hq; omega)
      rw [e, List.length_cons]
      exact Nat.le_refl _
    · rw [if_pos (by simpa using c), List.length_cons, List.length_cons]
      have := filter_len h2 (key := key)
      omega
/-- a list with one put anew, taken apart -/
theorem set_app {α : Type} : ∀ {xs : List α} {j : Nat} {x : α} (y : α), xs[j]? = some x → xs.set j y = xs.take j ++ y :: xs.drop (j + 1) ∧ xs = xs.take j ++ x :: xs.drop (j + 1)
  | a :: xs, 0, _, y, h => by
    cases h
    exact ⟨rfl, rfl⟩
  | a :: xs, j + 1, x, y, h => by
    obtain ⟨h1, h2⟩ := set_app (xs := xs) (j := j) y h
    refine ⟨?_, ?_⟩
    · show a :: xs.set j y = a :: (xs.take j ++ y :: xs.drop (j + 1))
      rw [h1]
    · show a :: xs = a :: (xs.take j ++ x :: xs.drop (j + 1))
      rw [← h2]
theorem two_app {α : Type} {xs : List α} {i : Nat} {a b : α} (h1 : xs[i]? = some a) (h2 : xs[i + 1]? = some b) : xs = xs.take i ++ a :: b :: xs.drop (i + 2) := by
  obtain ⟨_, e⟩ := set_app a h1
  obtain ⟨_, e2⟩ := set_app b h2
  have ed : xs.drop (i + 1) = b :: xs.drop (i + 2) := by
    obtain ⟨h3, h4⟩ := List.getElem?_eq_some_iff.mp h2
    rw [← h4]
    exact List.drop_eq_getElem_cons h3
  rw [ed] at e
  exact e
/-- how a node is mended: two neighbours, the part between them that is lent, or both made one -/
structure Mend (room l : Nat) (n : Int) (ks : List Int) (kids : List (Tr l)) (lo hi : Int) (t' : Tr (l + 1)) (i : Nat) (a b : Tr l) (k : Int) : Prop where
  ha : kids[i]? = some a
  hb : kids[i + 1]? = some b
  hk : ks[i]? = some k
  res : (∃ c k', 1 ≤ c ∧ c < partsT l a + partsT l b ∧ CutOk' room l (joinT l a k b) (cutT l c (num l b) (joinT l a k b)).1 (cutT l c (num l b) (joinT l a k b)).2.2 c (num l b) ((lo :: ks).getD i 0) k' ((ks ++ [hi]).getD (i + 1) 0) ∧ k' = (cutT l c (num l b) (joinT l a k b)).2.1 ∧ (room + 1) / 2 ≤ c ∧ (room + 1) / 2 + c ≤ partsT l a + partsT l b ∧
      t' = ndT n (ks.set i k') (kids.take i ++ (cutT l c (num l b) (joinT l a k b)).1 :: (cutT l c (num l b) (joinT l a k b)).2.2 :: kids.drop (i + 2))) ∨
    (t' = ndT n (ks.eraseIdx i) (kids.take i ++ joinT l a k b :: kids.drop (i + 2)))
  num : num (l + 1) t' = n
  kb : KeyB (l + 1) t' lo hi
  ok : KeyOk (l + 1) t'
  kw : KidW room (l + 1) t'
  lo_ : kids.length ≤ partsT (l + 1) t' + 1
  hi_ : partsT (l + 1) t' ≤ kids.length
  pr : prs (l + 1) t' = kids.flatMap (prs l)
theorem mend_ok {room : Nat} (r3 : 3 ≤ room) (r8 : room ≤ 8) {l : Nat} {n lo hi : Int} {ks : List Int} {kids : List (Tr l)} {j : Nat} {y : Tr l} (kb : KBs (KeyB l) lo ks kids hi) (hj : kids[j]? = some y) (two : 2 ≤ kids.length) (yw : KidW room l y) (yp : partsT l y + 1 = (room + 1) / 2)
    (wf : ∀ (m : Nat) (x : Tr l), kids[m]? = some x → m ≠ j → WfSh room l false (shp l x)) (ok : ∀ x ∈ kids, KeyOk l x) (rise : (kids.flatMap (prs l)).Pairwise fun a b => a.1 < b.1) (lo0 : 0 ≤ lo) (hi1 : hi ≤ 1000000001) :
    ∃ a b k, Mend room l n ks kids lo hi (mendT ((room + 1) / 2) n ks kids j) (j - 1) a b k ∧ (if j = 0 then a = y ∧ (room + 1) / 2 ≤ partsT l b else b = y ∧ (room + 1) / 2 ≤ partsT l a) := by
  have jl := (List.getElem?_eq_some_iff.mp hj).1
  obtain ⟨a, ha⟩ : ∃ a, kids[j - 1]? = some a := ⟨_, List.getElem?_eq_getElem (by omega)⟩
  obtain ⟨b, hb⟩ : ∃ b, kids[j - 1 + 1]? = some b := ⟨_, List.getElem?_eq_getElem (by omega)⟩
  obtain ⟨u, k, v, hk, hu, hv, ra, rb, f1, f2⟩ := KBs.two kb ha hb
  have all : ∀ x ∈ kids, ∀ p q, KeyB l x p q → p < q := fun x hx p q hR => by
    obtain ⟨m, hm⟩ := List.getElem?_of_mem hx
    by_cases c : m = j
    · rw [c, hj] at hm
      cases hm
      exact keyB_lt1 r3 hR yw (by omega)
    · exact keyB_lt r3 hR (wf m x hm c)
  obtain ⟨l1, l2, l3⟩ := KBs.lt (R := KeyB l) kb all
  have uk := all a (List.mem_of_getElem? ha) _ _ ra
  have kv := all b (List.mem_of_getElem? hb) _ _ rb
  have u0 : 0 ≤ u := by
    have m : u ∈ lo :: ks := List.mem_of_getElem? hu
    rcases List.mem_cons.mp m with rfl | m
    · exact lo0
    · have := l2 u m
      omega
  have v1 : v ≤ 1000000001 := by
    have m : v ∈ ks ++ [hi] := List.mem_of_getElem? hv
    rcases List.mem_append.mp m with m | m
    · have := l2 v m
      omega
    · rw [List.mem_singleton.mp m]
      exact hi1
  have oa := ok a (List.mem_of_getElem? ha)
  have ob := ok b (List.mem_of_getElem? hb)
  have mates : KidW room l a ∧ KidW room l b ∧ (if j = 0 then a = y ∧ (room + 1) / 2 ≤ partsT l b ∧ partsT l b ≤ room else b = y ∧ (room + 1) / 2 ≤ partsT l a ∧ partsT l a ≤ room) := by
    by_cases c : j = 0
    · subst c
      have e : a = y := by rw [hj] at ha; exact (Option.some.inj ha).symm
      obtain ⟨z1, z2, z3⟩ := wf_to (wf 1 b hb (by omega))
      rw [if_pos rfl]
      exact ⟨by rw [e]; exact yw, z1, e, z2, z3⟩
    · have e : b = y := by rw [show j - 1 + 1 = j by omega, hj] at hb; exact (Option.some.inj hb).symm
      obtain ⟨z1, z2, z3⟩ := wf_to (wf (j - 1) a ha (by omega))
      rw [if_neg c]
      exact ⟨z1, by rw [e]; exact yw, e, z2, z3⟩
  obtain ⟨wa, wb, mt⟩ := mates
  have ekk : ks.getD (j - 1) 0 = k := by
    rw [List.getD_eq_getElem?_getD, hk]
    rfl
  have euu : (lo :: ks).getD (j - 1) 0 = u := by
    rw [List.getD_eq_getElem?_getD, hu]
    rfl
  have evv : (ks ++ [hi]).getD (j - 1 + 1) 0 = v := by
    rw [List.getD_eq_getElem?_getD, hv]
    rfl
  have jp := join_parts (a := a) (b := b) (k := k)
  have jkb := join_kb ra rb (Int.le_of_lt uk) (Int.le_of_lt kv)
  have jkw := join_kw (k := k) wa wb
  have jok := join_ok r3 ra rb wa wb oa ob u0 v1
  have eapp := two_app ha hb
  have frest : ∀ x, x ∈ kids.take (j - 1) ∨ x ∈ kids.drop (j - 1 + 2) → WfSh room l false (shp l x) ∧ KeyOk l x := by
    intro x hx
    rcases hx with hx | hx
    · obtain ⟨m, hm⟩ := List.getElem?_of_mem hx
      have ml := (List.getElem?_eq_some_iff.mp hm).1
      rw [List.length_take] at ml
      rw [List.getElem?_take_of_lt (by omega)] at hm
      exact ⟨wf m x hm (by omega), ok x (List.mem_of_mem_take hx)⟩
    · obtain ⟨m, hm⟩ := List.getElem?_of_mem hx
      rw [List.getElem?_drop] at hm
      exact ⟨wf _ x hm (by omega), ok x (List.mem_of_mem_drop hx)⟩
  have sizes : partsT l a + 1 = (room + 1) / 2 ∧ (room + 1) / 2 ≤ partsT l b ∧ partsT l b ≤ room ∧ j = 0 ∨ partsT l b + 1 = (room + 1) / 2 ∧ (room + 1) / 2 ≤ partsT l a ∧ partsT l a ≤ room ∧ j ≠ 0 := by
    by_cases c : j = 0
    · rw [if_pos c] at mt
      exact .inl ⟨by rw [mt.1]; exact yp, mt.2.1, mt.2.2, c⟩
    · rw [if_neg c] at mt
      exact .inr ⟨by rw [mt.1]; exact yp, mt.2.1, mt.2.2, c⟩
  refine ⟨a, b, k, ?_, ?_⟩
  · have lk := List.length_take (l := kids) (i := j - 1)
    have ld := List.length_drop (l := kids) (i := j - 1 + 2)
    by_cases c : (room + 1) / 2 < partsT l (if j = 0 then b else a)
    · obtain ⟨cc, hcc, c1, c2, c3⟩ : ∃ cc, cc = (if j = 0 then partsT l a + 1 else partsT l a - 1) ∧ (room + 1) / 2 ≤ cc ∧ (room + 1) / 2 + cc ≤ partsT l a + partsT l b ∧ cc ≤ room ∧ partsT l a + partsT l b ≤ cc + room := by
        refine ⟨_, rfl, ?_⟩
        rcases sizes with ⟨s1, s2, s3, s4⟩ | ⟨s1, s2, s3, s4⟩
        · rw [if_pos s4] at c ⊢
          omega
        · rw [if_neg s4] at c ⊢
          omega
      have half2 : 2 ≤ (room + 1) / 2 := by omega
      have sub : (prs l (joinT l a k b)).Pairwise (fun a b => a.1 < b.1) := by
        rw [join_prs]
        rw [eapp, List.flatMap_append, List.flatMap_cons, List.flatMap_cons] at rise
        have z := (List.pairwise_append.mp rise).2.1
        rw [← List.append_assoc] at z
        exact (List.pairwise_append.mp z).1
      have co := cut_ok (n := num l b) r3 jkb jkw jok sub u0 v1 (c := cc) (by omega) (by rw [jp]; omega)
      have em : mendT ((room + 1) / 2) n ks kids j = ndT n (ks.set (j - 1) (cutT l cc (num l b) (joinT l a k b)).2.1) (kids.take (j - 1) ++ (cutT l cc (num l b) (joinT l a k b)).1 :: (cutT l cc (num l b) (joinT l a k b)).2.2 :: kids.drop (j - 1 + 2)) := by
        unfold mendT
        rw [ha, hb]
        dsimp only
        rw [if_pos c, ekk, ← hcc]
      have px := co.px
      have py := co.py
      rw [jp] at py
      have wx := wf_of co.wx (by omega) (by omega)
      have wy := wf_of co.wy (by omega) (by omega)
      have kb' := f1 _ _ _ co.kx co.ky
      have wall : ∀ x ∈ kids.take (j - 1) ++ (cutT l cc (num l b) (joinT l a k b)).1 :: (cutT l cc (num l b) (joinT l a k b)).2.2 :: kids.drop (j - 1 + 2), WfSh room l false (shp l x) ∧ KeyOk l x := by
        intro x hx
        rcases List.mem_append.mp hx with hx | hx
        · exact frest x (.inl hx)
        rcases List.mem_cons.mp hx with rfl | hx
        · exact ⟨wx, co.ox⟩
        rcases List.mem_cons.mp hx with rfl | hx
        · exact ⟨wy, co.oy⟩
        exact frest x (.inr hx)
      have len : (kids.take (j - 1) ++ (cutT l cc (num l b) (joinT l a k b)).1 :: (cutT l cc (num l b) (joinT l a k b)).2.2 :: kids.drop (j - 1 + 2)).length = kids.length := by
        rw [List.length_append, List.length_cons, List.length_cons, lk, ld]
        omega
      rw [em]
      refine ⟨ha, hb, hk, .inl ⟨cc, _, by omega, by omega, ?_, rfl, c1, c2, rfl⟩, rfl, kb', KeyOk.of_kb r3 kb' lo0 hi1 (fun x hx => (wall x hx).1) fun x hx => (wall x hx).2, fun x hx => (wall x hx).1, ?_, ?_, ?_⟩
      · rw [euu, evv]
        exact co
      · show kids.length ≤ (kids.take (j - 1) ++ (cutT l cc (num l b) (joinT l a k b)).1 :: (cutT l cc (num l b) (joinT l a k b)).2.2 :: kids.drop (j - 1 + 2)).length + 1
        omega
      · show (kids.take (j - 1) ++ (cutT l cc (num l b) (joinT l a k b)).1 :: (cutT l cc (num l b) (joinT l a k b)).2.2 :: kids.drop (j - 1 + 2)).length ≤ kids.length
        omega
      · show (kids.take (j - 1) ++ (cutT l cc (num l b) (joinT l a k b)).1 :: (cutT l cc (num l b) (joinT l a k b)).2.2 :: kids.drop (j - 1 + 2)).flatMap (prs l) = _
        have z := co.pr
        rw [join_prs] at z
        rw [List.flatMap_append, List.flatMap_cons, List.flatMap_cons, ← List.append_assoc (prs l _), z]
        conv => rhs; rw [eapp]
        rw [List.flatMap_append, List.flatMap_cons, List.flatMap_cons, List.append_assoc]
    · have em : mendT ((room + 1) / 2) n ks kids j = ndT n (ks.eraseIdx (j - 1)) (kids.take (j - 1) ++ joinT l a k b :: kids.drop (j - 1 + 2)) := by
        unfold mendT
        rw [ha, hb]
        dsimp only
        rw [if_neg c, ekk]
      have jw : WfSh room l false (shp l (joinT l a k b)) := by
        refine wf_of jkw ?_ ?_
        · rw [jp]
          rcases sizes with ⟨s1, s2, s3, s4⟩ | ⟨s1, s2, s3, s4⟩ <;> omega
        · rw [jp]
          rcases sizes with ⟨s1, s2, s3, s4⟩ | ⟨s1, s2, s3, s4⟩
          · rw [if_pos s4] at c
            omega
          · rw [if_neg s4] at c
            omega
      have kb' := f2 _ jkb
      have wall : ∀ x ∈ kids.take (j - 1) ++ joinT l a k b :: kids.drop (j - 1 + 2), WfSh room l false (shp l x) ∧ KeyOk l x := by
        intro x hx
        rcases List.mem_append.mp hx with hx | hx
        · exact frest x (.inl hx)
        rcases List.mem_cons.mp hx with rfl | hx
        · exact ⟨jw, jok⟩
        exact frest x (.inr hx)
      have len : (kids.take (j - 1) ++ joinT l a k b :: kids.drop (j - 1 + 2)).length + 1 = kids.length := by
        rw [List.length_append, List.length_cons, lk, ld]
        omega
      rw [em]
      refine ⟨ha, hb, hk, .inr rfl, rfl, kb', KeyOk.of_kb r3 kb' lo0 hi1 (fun x hx => (wall x hx).1) fun x hx => (wall x hx).2, fun x hx => (wall x hx).1, ?_, ?_, ?_⟩
      · show kids.length ≤ (kids.take (j - 1) ++ joinT l a k b :: kids.drop (j - 1 + 2)).length + 1
        omega
      · show (kids.take (j - 1) ++ joinT l a k b :: kids.drop (j - 1 + 2)).length ≤ kids.length
        omega
      · show (kids.take (j - 1) ++ joinT l a k b :: kids.drop (j - 1 + 2)).flatMap (prs l) = _
        rw [List.flatMap_append, List.flatMap_cons, join_prs]
        conv => rhs; rw [eapp]
        rw [List.flatMap_append, List.flatMap_cons, List.flatMap_cons, List.append_assoc]
  · by_cases c : j = 0
    · rw [if_pos c] at mt ⊢
      exact ⟨mt.1, mt.2.1⟩
    · rw [if_neg c] at mt ⊢
      exact ⟨mt.1, mt.2.1⟩
end K29

namespace K29
open PySem PySem.Spec PyProof.Rows L2 RZ HX TR RP
theorem kid_at {l : Nat} {t : Tr (l + 1)} {key : Int} (ok : KeyOk (l + 1) t) : ∃ x, t.kids[placeOf t.keys key]? = some x := by
  have h1 : placeOf t.keys key ≤ t.keys.length := List.length_filter_le _ _
  have h2 := ok.2.2.1
  exact ⟨_, List.getElem?_eq_getElem (by omega)⟩
/-- no other kid has a pair of the key -/
theorem kid_only {room l : Nat} (r3 : 3 ≤ room) {t : Tr (l + 1)} {key lo hi : Int} {tp : Bool} (h : KeyB (l + 1) t lo hi) (w : WfSh room (l + 1) tp (shp (l + 1) t)) (ok : KeyOk (l + 1) t) (s : (prs (l + 1) t).Pairwise fun a b => a.1 < b.1) {m : Nat} {x : Tr l} (hm : t.kids[m]? = some x) (ne : m ≠ placeOf t.keys key) : ∀ q ∈ prs l x, q.1 ≠ key := fun q hq e => by
  have hK : KBs (KeyB l) lo t.keys t.kids hi := h
  obtain ⟨a, b, ha, hb, hR⟩ := KBs.at hK hm
  have mx := List.mem_of_getElem? hm
  have wx := w.2.2 _ (List.mem_map_of_mem mx)
  have s' : (t.kids.flatMap (prs l)).Pairwise (fun a b => a.1 < b.1) := s
  have hal := keyB_all r3 hR wx (s'.sublist (sub_flat mx)) q hq
  have ml : m ≤ t.keys.length := by
    have := (List.getElem?_eq_some_iff.mp hm).1
    have := KBs.len hK
    omega
  have z := place_kid ok.1 ml ha hb hal.1 hal.2
  rw [e] at z
  exact ne z.symm
theorem flat_set {l : Nat} {kids : List (Tr l)} {j : Nat} {x y : Tr l} {key : Int} (hj : kids[j]? = some x) (hy : prs l y = (prs l x).filter fun q => decide (q.1 ≠ key)) (ho : ∀ m z, kids[m]? = some z → m ≠ j → ∀ q ∈ prs l z, q.1 ≠ key) :
    (kids.set j y).flatMap (prs l) = (kids.flatMap (prs l)).filter fun q => decide (q.1 ≠ key) := by
  obtain ⟨e1, e2⟩ := set_app y hj
  have jl := (List.getElem?_eq_some_iff.mp hj).1
  have f1 : ((kids.take j).flatMap (prs l)).filter (fun q => decide (q.1 ≠ key)) = (kids.take j).flatMap (prs l) := List.filter_eq_self.mpr fun q hq => by
    obtain ⟨z, hz, hq⟩ := List.mem_flatMap.mp hq
    obtain ⟨m, hm⟩ := List.getElem?_of_mem hz
    have ml := (List.getElem?_eq_some_iff.mp hm).1
    rw [List.length_take] at ml
    rw [List.getElem?_take_of_lt (by omega)] at hm
    exact decide_eq_true (ho m z hm (by omega) q hq)
  have f2 : ((kids.drop (j + 1)).flatMap (prs l)).filter (fun q => decide (q.1 ≠ key)) = (kids.drop (j + 1)).flatMap (prs l) := List.filter_eq_self.mpr fun q hq => by
    obtain ⟨z, hz, hq⟩ := List.mem_flatMap.mp hq
    obtain ⟨m, hm⟩ := List.getElem?_of_mem hz
    rw [List.getElem?_drop] at hm
    exact decide_eq_true (ho _ z hm (by omega) q hq)
  rw [e1, List.flatMap_append, List.flatMap_cons, hy]
  conv => rhs; rw [e2]
  rw [List.flatMap_append, List.flatMap_cons, List.filter_append, List.filter_append, f1, f2]
/-- what one knows of a node when the kid on the way is dropped from -/
structure KidAt (room l : Nat) (key : Int) (t : Tr (l + 1)) (x y : Tr l) (lo hi : Int) : Prop where
  hj : t.kids[placeOf t.keys key]? = some x
  kb : KBs (KeyB l) lo t.keys (t.kids.set (placeOf t.keys key) y) hi
  ok : ∀ z ∈ t.kids.set (placeOf t.keys key) y, KeyOk l z
  wf : ∀ m z, (t.kids.set (placeOf t.keys key) y)[m]? = some z → m ≠ placeOf t.keys key → WfSh room l false (shp l z)
  pr : (t.kids.set (placeOf t.keys key) y).flatMap (prs l) = (prs (l + 1) t).filter fun q => decide (q.1 ≠ key)
  two : 2 ≤ t.kids.length
  le : t.kids.length ≤ room
/-- what the drop needs to know of a tree below -/
structure Gd (room l : Nat) (x : Tr l) (lo hi : Int) (tp : Bool) : Prop where
  kb : KeyB l x lo hi
  wf : WfSh room l tp (shp l x)
  ok : KeyOk l x
  rise : (prs l x).Pairwise fun a b => a.1 < b.1
  lo0 : 0 ≤ lo
  hi1 : hi ≤ 1000000001
theorem del_kid_of {room : Nat} (r3 : 3 ≤ room) {key : Int} {l : Nat} (IH : ∀ {x : Tr l} {lo hi : Int} {tp : Bool}, Gd room l x lo hi tp → DelS room l key x (delT ((room + 1) / 2) key l x) lo hi tp) {t : Tr (l + 1)} {lo hi : Int} {tp : Bool} (g : Gd room (l + 1) t lo hi tp) :
    ∃ (x : Tr l) (a b : Int), Gd room l x a b false ∧ KidAt room l key t x (delT ((room + 1) / 2) key l x) lo hi ∧ delT ((room + 1) / 2) key (l + 1) t = upT ((room + 1) / 2) t (placeOf t.keys key) (delT ((room + 1) / 2) key l x) := by
  obtain ⟨h, w, ok, s, lo0, hi1⟩ := g
  have hK : KBs (KeyB l) lo t.keys t.kids hi := h
  obtain ⟨x, hx⟩ := kid_at (key := key) ok
  have mx := List.mem_of_getElem? hx
  obtain ⟨a, b, ha, hb, hR, f1, _⟩ := KBs.parts hK hx
  have wx := w.2.2 _ (List.mem_map_of_mem mx)
  have s' : (t.kids.flatMap (prs l)).Pairwise (fun a b => a.1 < b.1) := s
  have sx := s'.sublist (sub_flat mx)
  obtain ⟨w1, w2, w3⟩ := id w
  have e0 : (shp (l + 1) t).ks.length = t.kids.length := List.length_map ..
  rw [e0] at w1 w2
  have two : 2 ≤ t.kids.length := by
    cases tp with
    | true => exact w1
    | false =>
      have z : (room + 1) / 2 ≤ t.kids.length := w1
      omega
  have kl := KBs.lt (R := KeyB l) hK fun z hz p q hR => keyB_lt r3 hR (w3 _ (List.mem_map_of_mem hz))
  have a0 : 0 ≤ a := by
    have m : a ∈ lo :: t.keys := List.mem_of_getElem? ha
    rcases List.mem_cons.mp m with rfl | m
    · exact lo0
    · have := kl.2.1 a m
      omega
  have b1 : b ≤ 1000000001 := by
    have m : b ∈ t.keys ++ [hi] := List.mem_of_getElem? hb
    rcases List.mem_append.mp m with m | m
    · have := kl.2.1 b m
      omega
    · rw [List.mem_singleton.mp m]
      exact hi1
  have gx : Gd room l x a b false := ⟨hR, wx, ok.2.2.2 x mx, sx, a0, b1⟩
  have D := IH gx
  have e1 : delT ((room + 1) / 2) key (l + 1) t = upT ((room + 1) / 2) t (placeOf t.keys key) (delT ((room + 1) / 2) key l x) := by
    show (match t.kids[placeOf t.keys key]? with | none => t | some x => upT ((room + 1) / 2) t (placeOf t.keys key) (delT ((room + 1) / 2) key l x)) = _
    rw [hx]
  refine ⟨x, a, b, gx, ⟨hx, f1 _ D.kb, fun z hz => ?_, fun m z hm ne => ?_, ?_, two, w2⟩, e1⟩
  · rcases List.mem_or_eq_of_mem_set hz with hz | rfl
    · exact ok.2.2.2 z hz
    · exact D.ok
  · rw [List.getElem?_set_ne (Ne.symm ne)] at hm
    exact w3 _ (List.mem_map_of_mem (List.mem_of_getElem? hm))
  · exact flat_set hx D.pr fun m z hm ne => kid_only r3 h w ok s hm ne
theorem del_s {room : Nat} (r3 : 3 ≤ room) (r8 : room ≤ 8) {key : Int} : ∀ {l : Nat} {x : Tr l} {lo hi : Int} {tp : Bool}, Gd room l x lo hi tp → DelS room l key x (delT ((room + 1) / 2) key l x) lo hi tp
  | 0, x, lo, hi, tp, ⟨h, w, _, s, _, _⟩ => by
    obtain ⟨w1, w2⟩ := w
    have w2' : x.ps.length ≤ room := w2
    have fl := filter_len (key := key) s
    refine ⟨rfl, fun q hq => h q (List.mem_filter.mp hq).1, trivial, trivial, ?_, ?_, rfl⟩
    · show loS room 0 tp ≤ (x.ps.filter _).length + 1
      exact Nat.le_trans w1 fl
    · exact Nat.le_trans (List.length_filter_le _ _) w2'
  | l + 1, t, lo, hi, tp, g => by
    obtain ⟨x, a, b, gx, KA, e1⟩ := del_kid_of r3 (fun g => del_s r3 r8 g) g (key := key)
    obtain ⟨h, w, ok, s, lo0, hi1⟩ := g
    have D := del_s r3 r8 (key := key) gx
    obtain ⟨w1, _, w3⟩ := id w
    have e0 : (shp (l + 1) t).ks.length = t.kids.length := List.length_map ..
    rw [e0] at w1
    generalize hy : delT ((room + 1) / 2) key l x = y at D KA e1
    have jl := (List.getElem?_eq_some_iff.mp KA.hj).1
    have le := KA.le
    have two := KA.two
    rw [e1]
    have setl : (t.kids.set (placeOf t.keys key) y).length = t.kids.length := List.length_set
    have hyj : (t.kids.set (placeOf t.keys key) y)[placeOf t.keys key]? = some y := List.getElem?_set_self jl
    by_cases c : (room + 1) / 2 ≤ partsT l y
    · have e2 : upT ((room + 1) / 2) t (placeOf t.keys key) y = ndT (num (l + 1) t) t.keys (t.kids.set (placeOf t.keys key) y) := by
        unfold upT
        rw [if_pos c]
      have wy := wf_of D.kw c D.hi_
      have wall : ∀ z ∈ t.kids.set (placeOf t.keys key) y, WfSh room l false (shp l z) := fun z hz => by
        rcases List.mem_or_eq_of_mem_set hz with hz | rfl
        · exact w3 _ (List.mem_map_of_mem hz)
        · exact wy
      rw [e2]
      refine ⟨rfl, KA.kb, KeyOk.of_kb r3 KA.kb lo0 hi1 wall KA.ok, wall, ?_, ?_, KA.pr⟩
      · show loS room (l + 1) tp ≤ (t.kids.set (placeOf t.keys key) y).length + 1
        omega
      · show (t.kids.set (placeOf t.keys key) y).length ≤ room
        omega
    · have e2 : upT ((room + 1) / 2) t (placeOf t.keys key) y = mendT ((room + 1) / 2) (num (l + 1) t) t.keys (t.kids.set (placeOf t.keys key) y) (placeOf t.keys key) := by
        unfold upT
        rw [if_neg c]
      have lo_ : (room + 1) / 2 ≤ partsT l y + 1 := D.lo_
      have rise : ((t.kids.set (placeOf t.keys key) y).flatMap (prs l)).Pairwise fun a b => a.1 < b.1 := by
        rw [KA.pr]
        exact s.filter _
      obtain ⟨p, q, k, M, _⟩ := mend_ok (n := num (l + 1) t) r3 r8 KA.kb hyj (by omega) D.kw (by omega) KA.wf KA.ok rise lo0 hi1
      rw [e2]
      have z1 := M.lo_
      have z2 := M.hi_
      exact ⟨M.num, M.kb, M.ok, M.kw, by omega, by omega, M.pr.trans KA.pr⟩
end K29

namespace K29
open PySem PySem.Spec PyProof.Rows L2 RZ HX TR RP
/-! pages of a drop -/
def joinPg (k : Int) : Pg → Pg → Pg
  | .leaf ps _, .leaf qs nx => .leaf (ps ++ qs) nx
  | .node ks kids, .node js jids => .node (ks ++ k :: js) (kids ++ jids)
  | g, _ => g
def dropK (D : List (Int × Pg)) (r : Int) : List (Int × Pg) := D.filter fun q => decide (q.1 ≠ r)
def mendPg (half : Nat) (D : List (Int × Pg)) (e n : Int) : List (Int × Pg) :=
  match lkp D e with
  | some (.node ks kids) =>
    match lkp D (kids.getD (kids.idxOf n - 1) 0), lkp D (kids.getD (kids.idxOf n - 1 + 1) 0) with
    | some gl, some gr =>
      if half < Pg.parts (if kids.idxOf n = 0 then gr else gl) then
        let z := cutPg (if kids.idxOf n = 0 then Pg.parts gl + 1 else Pg.parts gl - 1) (kids.getD (kids.idxOf n - 1 + 1) 0) (joinPg (ks.getD (kids.idxOf n - 1) 0) gl gr)
        setp (setp (setp D (kids.getD (kids.idxOf n - 1) 0) z.1) (kids.getD (kids.idxOf n - 1 + 1) 0) z.2.2) e (.node (ks.set (kids.idxOf n - 1) z.2.1) kids)
      else setp (dropK (setp D (kids.getD (kids.idxOf n - 1) 0) (joinPg (ks.getD (kids.idxOf n - 1) 0) gl gr)) (kids.getD (kids.idxOf n - 1 + 1) 0)) e (.node (ks.eraseIdx (kids.idxOf n - 1)) (kids.eraseIdx (kids.idxOf n - 1 + 1)))
    | _, _ => D
  | _ => D
def pgT : (l : Nat) → Int → Tr l → Pg
  | 0, nx, t => .leaf t.ps nx
  | l + 1, _, t => .node t.keys (t.kids.map (num l))
def inner : (l : Nat) → Tr l → List Int
  | 0, _ => []
  | l + 1, t => t.kids.flatMap (nums l)
def KL (D : List (Int × Pg)) : (l : Nat) → Tr l → Prop
  | 0, _ => True
  | l + 1, t => ∀ k ∈ t.kids, Laid D l k
theorem nums_in : ∀ {l : Nat} {t : Tr l}, nums l t = num l t :: inner l t
  | 0, _ => rfl
  | _ + 1, _ => rfl
theorem laid_kl {D : List (Int × Pg)} : ∀ {l : Nat} {t : Tr l}, Laid D l t ↔ (∃ nx, lkp D (num l t) = some (pgT l nx t)) ∧ KL D l t
  | 0, t => ⟨fun h => ⟨h, trivial⟩, fun h => h.1⟩
  | l + 1, t => ⟨fun h => ⟨⟨0, h.1⟩, h.2⟩, fun ⟨⟨_, h⟩, g⟩ => ⟨h, g⟩⟩
theorem KL.on {D S : List (Int × Pg)} : ∀ {l : Nat} {t : Tr l}, (∀ n ∈ inner l t, lkp S n = lkp D n) → KL D l t → KL S l t
  | 0, _, _, _ => trivial
  | l + 1, t, e, h => fun k hk => Laid.on (fun n hn => e n (List.mem_flatMap.mpr ⟨k, hk, hn⟩)) (h k hk)
theorem join_pg : ∀ {l : Nat} {a b : Tr l} {k na nb : Int}, joinPg k (pgT l na a) (pgT l nb b) = pgT l nb (joinT l a k b)
  | 0, _, _, _, _, _ => rfl
  | l + 1, a, b, k, _, _ => by
    show Pg.node (a.keys ++ k :: b.keys) (a.kids.map (num l) ++ b.kids.map (num l)) = .node (a.keys ++ k :: b.keys) ((a.kids ++ b.kids).map (num l))
    rw [List.map_append]
theorem cut_pg : ∀ {l : Nat} {w : Tr l} {c : Nat} {n nx : Int}, cutPg c n (pgT l nx w) = (pgT l n (cutT l c n w).1, (cutT l c n w).2.1, pgT l nx (cutT l c n w).2.2)
  | 0, _, _, _, _ => rfl
  | l + 1, w, c, n, _ => by
    show (Pg.node (w.keys.take (c - 1)) ((w.kids.map (num l)).take c), w.keys.getD (c - 1) 0, Pg.node (w.keys.drop c) ((w.kids.map (num l)).drop c)) = (.node (w.keys.take (c - 1)) ((w.kids.take c).map (num l)), w.keys.getD (c - 1) 0, .node (w.keys.drop c) ((w.kids.drop c).map (num l)))
    rw [List.map_take, List.map_drop]
theorem pg_parts : ∀ {l : Nat} {t : Tr l} {nx : Int}, Pg.parts (pgT l nx t) = partsT l t
  | 0, _, _ => rfl
  | _ + 1, _, _ => List.length_map ..
theorem join_inner : ∀ {l : Nat} {a b : Tr l} {k : Int}, inner l (joinT l a k b) = inner l a ++ inner l b
  | 0, _, _, _ => rfl
  | _ + 1, _, _, _ => List.flatMap_append
theorem cut_inner : ∀ {l : Nat} {w : Tr l} {c : Nat} {n : Int}, inner l (cutT l c n w).1 ++ inner l (cutT l c n w).2.2 = inner l w
  | 0, _, _, _ => rfl
  | l + 1, w, c, n => by
    show (w.kids.take c).flatMap (nums l) ++ (w.kids.drop c).flatMap (nums l) = w.kids.flatMap (nums l)
    rw [← List.flatMap_append, List.take_append_drop]
theorem join_kl {D : List (Int × Pg)} : ∀ {l : Nat} {a b : Tr l} {k : Int}, KL D l a → KL D l b → KL D l (joinT l a k b)
  | 0, _, _, _, _, _ => trivial
  | _ + 1, _, _, _, h, g => fun x hx => by
    rcases List.mem_append.mp hx with hx | hx
    · exact h x hx
    · exact g x hx
theorem cut_kl {D : List (Int × Pg)} : ∀ {l : Nat} {w : Tr l} {c : Nat} {n : Int}, KL D l w → KL D l (cutT l c n w).1 ∧ KL D l (cutT l c n w).2.2
  | 0, _, _, _, _ => ⟨trivial, trivial⟩
  | _ + 1, w, _, _, h => ⟨fun x hx => h x (List.mem_of_mem_take hx), fun x hx => h x (List.mem_of_mem_drop hx)⟩
theorem join_lvs : ∀ {l : Nat} {a b : Tr (l + 1)} {k : Int}, lvs (l + 1) (joinT (l + 1) a k b) = lvs (l + 1) a ++ lvs (l + 1) b := List.flatMap_append
theorem cut_lvs {l : Nat} {w : Tr (l + 1)} {c : Nat} {n : Int} : lvs (l + 1) (cutT (l + 1) c n w).1 ++ lvs (l + 1) (cutT (l + 1) c n w).2.2 = lvs (l + 1) w := by
  show (w.kids.take c).flatMap (lvs l) ++ (w.kids.drop c).flatMap (lvs l) = w.kids.flatMap (lvs l)
  rw [← List.flatMap_append, List.take_append_drop]
theorem lkp_dropK {D : List (Int × Pg)} {r n : Int} : lkp (dropK D r) n = if n = r then none else lkp D n := by
  induction D with
  | nil =>
    show none = if n = r then none else none
    split <;> rfl
  | cons q D ih =>
    unfold dropK at ih ⊢
    rw [List.filter_cons]
    by_cases c : q.1 = r
    · rw [if_neg (by simpa using c), ih, lkp_cons]
      by_cases d : n = r
      · rw [if_pos d, if_pos d]
      · rw [if_neg d, if_neg d, if_neg (fun z => d (by rw [← z, c]))]
    · rw [if_pos (by simpa using c), lkp_cons, lkp_cons, ih]
      by_cases d : n = r
      · rw [if_pos d, if_neg (fun z => c (by rw [z, d])), if_pos d]
      · rw [if_neg d, if_neg d]
theorem dropK_keys {D : List (Int × Pg)} {r : Int} : (dropK D r).map (·.1) = (D.map (·.1)).filter fun k => decide (k ≠ r) := by
  unfold dropK
  rw [List.filter_map]
  rfl
structure Del (room l : Nat) (key : Int) (D0 D1 : List (Int × Pg)) (x : Tr l) (y : Tr l) : Prop where
  laid : Laid D1 l y
  chain : ∀ nxt, Chain D0 (lvs l x) nxt → Chain D1 (lvs l y) nxt
  frame : ∀ n, n ∉ nums l x → lkp D1 n = lkp D0 n
  keys : ∃ gone, (nums l x).Perm (nums l y ++ gone) ∧ D1.map (·.1) = (D0.map (·.1)).filter fun k => decide (k ∉ gone)
  hd : (lvs l y).head? = (lvs l x).head?
/-- the leaf -/
theorem del_leaf {room : Nat} {key nx : Int} {D0 : List (Int × Pg)} {x : Tr 0} (h : lkp D0 (num 0 x) = some (.leaf x.ps nx)) : Del room 0 key D0 (setp D0 (num 0 x) (.leaf (x.ps.filter fun q => decide (q.1 ≠ key)) nx)) x (delT ((room + 1) / 2) key 0 x) := by
  refine ⟨⟨nx, lkp_setp_eq h⟩, fun nxt ch => ?_, fun n hn => lkp_setp_ne fun e => hn (by rw [e]; exact List.mem_singleton.mpr rfl), ⟨[], ?_, ?_⟩, rfl⟩
  · obtain ⟨⟨ps, e⟩, _⟩ := ch
    rw [h] at e
    have e2 : nx = ((([] : List Int).head?).getD nxt) := by
      injection e with e
      injection e
    refine ⟨⟨x.ps.filter (fun q => decide (q.1 ≠ key)), ?_⟩, trivial⟩
    rw [← e2]
    exact lkp_setp_eq h
  · rw [List.append_nil]
    exact List.Perm.refl _
  · rw [setp_keys]
    exact (List.filter_eq_self.mpr fun k _ => decide_eq_true (List.not_mem_nil)).symm
end K29

namespace K29
open PySem PySem.Spec PyProof.Rows L2 RZ HX TR RP
theorem idx_at {xs : List Int} (nd : xs.Nodup) {j : Nat} {v : Int} (h : xs[j]? = some v) : xs.idxOf v = j := by
  have m := List.mem_of_getElem? h
  have lt := List.idxOf_lt_length_of_mem m
  have e : xs[xs.idxOf v]? = some v := by
    rw [List.getElem?_eq_getElem lt, List.getElem_idxOf]
  exact nodup_at nd e h
theorem cut_num : ∀ {l : Nat} {w : Tr l} {c : Nat} {n : Int}, num l (cutT l c n w).1 = num l w ∧ num l (cutT l c n w).2.2 = n
  | 0, _, _, _ => ⟨rfl, rfl⟩
  | _ + 1, _, _, _ => ⟨rfl, rfl⟩
theorem nums_sub {l : Nat} : ∀ {kids : List (Tr l)}, (kids.map (num l)).Sublist (kids.flatMap (nums l))
  | [] => List.Sublist.refl _
  | k :: kids => by
    rw [List.map_cons, List.flatMap_cons, nums_in, List.cons_append]
    exact List.Sublist.cons₂ _ ((nums_sub (kids := kids)).trans (List.sublist_append_right _ _))
theorem mendT_eq {half l : Nat} {n : Int} {ks : List Int} {kids : List (Tr l)} {j : Nat} {a b : Tr l} {k : Int} (ha : kids[j - 1]? = some a) (hb : kids[j - 1 + 1]? = some b) (hk : ks[j - 1]? = some k) : mendT half n ks kids j =
    if half < partsT l (if j = 0 then b else a) then ndT n (ks.set (j - 1) (cutT l (if j = 0 then partsT l a + 1 else partsT l a - 1) (num l b) (joinT l a k b)).2.1) (kids.take (j - 1) ++ (cutT l (if j = 0 then partsT l a + 1 else partsT l a - 1) (num l b) (joinT l a k b)).1 :: (cutT l (if j = 0 then partsT l a + 1 else partsT l a - 1) (num l b) (joinT l a k b)).2.2 :: kids.drop (j - 1 + 2))
    else ndT n (ks.eraseIdx (j - 1)) (kids.take (j - 1) ++ joinT l a k b :: kids.drop (j - 1 + 2)) := by
  have ek : ks.getD (j - 1) 0 = k := by
    rw [List.getD_eq_getElem?_getD, hk]
    rfl
  unfold mendT
  rw [ha, hb]
  dsimp only
  rw [ek]
theorem mendPg_eq {half l : Nat} {n : Int} {ks : List Int} {kids : List (Tr l)} {j : Nat} {y a b : Tr l} {k na nb : Int} {D : List (Int × Pg)} (nd : (kids.map (num l)).Nodup) (hj : kids[j]? = some y) (ha : kids[j - 1]? = some a) (hb : kids[j - 1 + 1]? = some b) (hk : ks[j - 1]? = some k)
    (he : lkp D n = some (.node ks (kids.map (num l)))) (pa : lkp D (num l a) = some (pgT l na a)) (pb : lkp D (num l b) = some (pgT l nb b)) : mendPg half D n (num l y) =
    if half < partsT l (if j = 0 then b else a) then setp (setp (setp D (num l a) (pgT l (num l b) (cutT l (if j = 0 then partsT l a + 1 else partsT l a - 1) (num l b) (joinT l a k b)).1)) (num l b) (pgT l nb (cutT l (if j = 0 then partsT l a + 1 else partsT l a - 1) (num l b) (joinT l a k b)).2.2)) n
        (.node (ks.set (j - 1) (cutT l (if j = 0 then partsT l a + 1 else partsT l a - 1) (num l b) (joinT l a k b)).2.1) (kids.map (num l)))
    else setp (dropK (setp D (num l a) (pgT l nb (joinT l a k b))) (num l b)) n (.node (ks.eraseIdx (j - 1)) ((kids.map (num l)).eraseIdx (j - 1 + 1))) := by
  have ei : (kids.map (num l)).idxOf (num l y) = j := idx_at nd (by rw [List.getElem?_map, hj]; rfl)
  have ek : ks.getD (j - 1) 0 = k := by
    rw [List.getD_eq_getElem?_getD, hk]
    rfl
  have el : (kids.map (num l)).getD (j - 1) 0 = num l a := by
    rw [List.getD_eq_getElem?_getD, List.getElem?_map, ha]
    rfl
  have er : (kids.map (num l)).getD (j - 1 + 1) 0 = num l b := by
    rw [List.getD_eq_getElem?_getD, List.getElem?_map, hb]
    rfl
  unfold mendPg
  rw [he]
  dsimp only
  rw [ei, el, er, pa, pb]
  dsimp only
  have e : Pg.parts (if j = 0 then pgT l nb b else pgT l na a) = partsT l (if j = 0 then b else a) := by
    by_cases c : j = 0
    · rw [if_pos c, if_pos c, pg_parts]
    · rw [if_neg c, if_neg c, pg_parts]
  rw [ek, join_pg, cut_pg, e, pg_parts]
end K29

namespace K29
open PySem PySem.Spec PyProof.Rows L2 RZ HX TR RP
theorem head_app {α : Type} {xs ys zs : List α} (h : xs.head? = ys.head?) : (xs ++ zs).head? = (ys ++ zs).head? := by
  rw [List.head?_append, List.head?_append, h]
theorem lvs_inner {l : Nat} {t : Tr (l + 1)} {m : Int} (h : m ∈ lvs (l + 1) t) : m ∈ inner (l + 1) t := by
  obtain ⟨q, hq, hm⟩ := List.mem_flatMap.mp h
  exact List.mem_flatMap.mpr ⟨q, hq, lvs_sub.subset hm⟩
/-- a node mended, its pages with it -/
structure MDel (l : Nat) (n : Int) (kids : List (Tr l)) (D1 D2 : List (Int × Pg)) (t' : Tr (l + 1)) : Prop where
  laid : Laid D2 (l + 1) t'
  chain : ∀ nxt, Chain D1 (kids.flatMap (lvs l)) nxt → Chain D2 (lvs (l + 1) t') nxt
  frame : ∀ m, m ∉ n :: kids.flatMap (nums l) → lkp D2 m = lkp D1 m
  keys : ∃ gone, (n :: kids.flatMap (nums l)).Perm (nums (l + 1) t' ++ gone) ∧ D2.map (·.1) = (D1.map (·.1)).filter fun k => decide (k ∉ gone)
  hd : (lvs (l + 1) t').head? = (kids.flatMap (lvs l)).head?
theorem mend_dyn {half l : Nat} {n : Int} {ks : List Int} {kids : List (Tr l)} {j : Nat} {y a b : Tr l} {k : Int} {D : List (Int × Pg)} (hj : kids[j]? = some y) (ha : kids[j - 1]? = some a) (hb : kids[j - 1 + 1]? = some b) (hk : ks[j - 1]? = some k)
    (he : lkp D n = some (.node ks (kids.map (num l)))) (nd : (n :: kids.flatMap (nums l)).Nodup) (laid : ∀ z ∈ kids, Laid D l z) : MDel l n kids D (mendPg half D n (num l y)) (mendT half n ks kids j) := by
  obtain ⟨ndn, ndf⟩ := List.nodup_cons.mp nd
  have nd1 : (kids.map (num l)).Nodup := ndf.sublist nums_sub
  have la := laid a (List.mem_of_getElem? ha)
  have lb := laid b (List.mem_of_getElem? hb)
  obtain ⟨⟨na, pa⟩, ka⟩ := laid_kl.mp la
  obtain ⟨⟨nb, pb⟩, kb⟩ := laid_kl.mp lb
  rw [mendT_eq ha hb hk, mendPg_eq nd1 hj ha hb hk he pa pb]
  have eapp := two_app ha hb
  generalize hA : kids.take (j - 1) = A at eapp
  generalize hB : kids.drop (j - 1 + 2) = B at eapp
  have lA : A.length = j - 1 := by
    have := (List.getElem?_eq_some_iff.mp ha).1
    rw [← hA, List.length_take]
    omega
  have ef : kids.flatMap (nums l) = A.flatMap (nums l) ++ (num l a :: inner l a ++ (num l b :: inner l b ++ B.flatMap (nums l))) := by
    rw [eapp, List.flatMap_append, List.flatMap_cons, List.flatMap_cons, nums_in, nums_in]
  rw [ef] at ndf ndn
  have pw : (A.flatMap (nums l) ++ (num l a :: inner l a ++ (num l b :: inner l b ++ B.flatMap (nums l)))).Pairwise (· ≠ ·) := List.nodup_iff_pairwise_ne.mp ndf
  obtain ⟨_, pw2, pw3⟩ := List.pairwise_append.mp pw
  obtain ⟨pwa, pwb, pwc⟩ := List.pairwise_append.mp pw2
  obtain ⟨pwd, pwe⟩ := List.pairwise_cons.mp pwa
  obtain ⟨pwf, pwg⟩ := List.pairwise_cons.mp (show (num l b :: (inner l b ++ B.flatMap (nums l))).Pairwise (· ≠ ·) from pwb)
  have nan : num l a ≠ n := fun e => ndn (by rw [← e]; exact List.mem_append_right _ (List.mem_cons_self ..))
  have nbn : num l b ≠ n := fun e => ndn (by rw [← e]; exact List.mem_append_right _ (List.mem_append_right _ (List.mem_cons_self ..)))
  have nab : num l a ≠ num l b := pwc _ (List.mem_cons_self ..) _ (List.mem_cons_self ..)
  have oth : ∀ m, (m ∈ A.flatMap (nums l) ∨ m ∈ inner l a ∨ m ∈ inner l b ∨ m ∈ B.flatMap (nums l)) → m ≠ n ∧ m ≠ num l a ∧ m ≠ num l b := by
    intro m hm
    refine ⟨fun e => ndn ?_, fun e => ?_, fun e => ?_⟩
    · rw [← e]
      rcases hm with h | h | h | h
      · exact List.mem_append_left _ h
      · exact List.mem_append_right _ (List.mem_append_left _ (List.mem_cons_of_mem _ h))
      · exact List.mem_append_right _ (List.mem_append_right _ (List.mem_append_left _ (List.mem_cons_of_mem _ h)))
      · exact List.mem_append_right _ (List.mem_append_right _ (List.mem_append_right _ h))
    · rcases hm with h | h | h | h
      · exact pw3 m h (num l a) (List.mem_cons_self ..) e
      · exact pwd m h e.symm
      · exact pwc _ (List.mem_cons_self ..) m (List.mem_append_left _ (List.mem_cons_of_mem _ h)) e.symm
      · exact pwc _ (List.mem_cons_self ..) m (List.mem_append_right _ h) e.symm
    · rcases hm with h | h | h | h
      · exact pw3 m h (num l b) (List.mem_append_right _ (List.mem_cons_self ..)) e
      · exact pwc m (List.mem_cons_of_mem _ h) _ (List.mem_cons_self ..) e
      · exact pwf m (List.mem_append_left _ h) e.symm
      · exact pwf m (List.mem_append_right _ h) e.symm
  have flat : ∀ {X : List (Tr l)} {z : Tr l} {m : Int}, z ∈ X → m ∈ nums l z → m ∈ X.flatMap (nums l) := fun hz hm => List.mem_flatMap.mpr ⟨_, hz, hm⟩
  have inA : ∀ z ∈ A, z ∈ kids := fun z hz => by rw [eapp]; exact List.mem_append_left _ hz
  have inB : ∀ z ∈ B, z ∈ kids := fun z hz => by rw [eapp]; exact List.mem_append_right _ (List.mem_cons_of_mem _ (List.mem_cons_of_mem _ hz))
  have emap : kids.map (num l) = A.map (num l) ++ num l a :: num l b :: B.map (num l) := by rw [eapp, List.map_append, List.map_cons, List.map_cons]
  have elv : kids.flatMap (lvs l) = A.flatMap (lvs l) ++ (lvs l a ++ (lvs l b ++ B.flatMap (lvs l))) := by rw [eapp, List.flatMap_append, List.flatMap_cons, List.flatMap_cons]
  by_cases c : half < partsT l (if j = 0 then b else a)
  · rw [if_pos c, if_pos c]
    generalize hc : (if j = 0 then partsT l a + 1 else partsT l a - 1) = cc
    generalize hw : joinT l a k b = w
    obtain ⟨nx1, ny1⟩ := cut_num (l := l) (w := w) (c := cc) (n := num l b)
    have nw : num l w = num l a := by rw [← hw, join_num]
    rw [nw] at nx1
    have ein := cut_inner (l := l) (w := w) (c := cc) (n := num l b)
    have kw : KL D l w := by rw [← hw]; exact join_kl ka kb
    obtain ⟨kx, ky⟩ := cut_kl (c := cc) (n := num l b) kw
    have einw : inner l w = inner l a ++ inner l b := by rw [← hw, join_inner]
    rw [einw] at ein
    have hlv : ∀ m, l = m + 1 → lvs l (cutT l cc (num l b) w).1 ++ lvs l (cutT l cc (num l b) w).2.2 = lvs l a ++ lvs l b := fun m e => by
      subst e
      rw [cut_lvs, ← hw, join_lvs]
    have hl0 : ∀ x : Tr l, l = 0 → lvs l x = [num l x] := fun x e => by
      subst e
      rfl
    have hpg : l = 0 → ∃ ps qs : List (Int × Int), pgT l (num l b) (cutT l cc (num l b) w).1 = .leaf ps (num l b) ∧ pgT l nb (cutT l cc (num l b) w).2.2 = .leaf qs nb := fun e => by
      subst e
      exact ⟨_, _, rfl, rfl⟩
    have hpb : l = 0 → ∃ qs : List (Int × Int), pgT l nb b = .leaf qs nb := fun e => by
      subst e
      exact ⟨_, rfl⟩
    generalize hx : (cutT l cc (num l b) w).1 = x at *
    generalize hy : (cutT l cc (num l b) w).2.2 = z at *
    generalize hkk : (cutT l cc (num l b) w).2.1 = k' at *
    have e0 : lkp (setp D (num l a) (pgT l (num l b) x)) (num l b) = some (pgT l nb b) := by rw [lkp_setp_ne nab.symm, pb]
    have e1 : lkp (setp (setp D (num l a) (pgT l (num l b) x)) (num l b) (pgT l nb z)) n = some (.node ks (kids.map (num l))) := by rw [lkp_setp_ne nbn.symm, lkp_setp_ne nan.symm, he]
    generalize hD2 : setp (setp (setp D (num l a) (pgT l (num l b) x)) (num l b) (pgT l nb z)) n (.node (ks.set (j - 1) k') (kids.map (num l))) = D2
    have L1 : lkp D2 n = some (.node (ks.set (j - 1) k') (kids.map (num l))) := by rw [← hD2]; exact lkp_setp_eq e1
    have L2 : lkp D2 (num l a) = some (pgT l (num l b) x) := by rw [← hD2, lkp_setp_ne nan, lkp_setp_ne nab]; exact lkp_setp_eq pa
    have L3 : lkp D2 (num l b) = some (pgT l nb z) := by rw [← hD2, lkp_setp_ne nbn]; exact lkp_setp_eq e0
    have L4 : ∀ m, m ≠ n → m ≠ num l a → m ≠ num l b → lkp D2 m = lkp D m := fun m h1 h2 h3 => by rw [← hD2, lkp_setp_ne h1, lkp_setp_ne h3, lkp_setp_ne h2]
    have L5 : D2.map (·.1) = D.map (·.1) := by rw [← hD2, setp_keys, setp_keys, setp_keys]
    have L6 : ∀ m, (m ∈ A.flatMap (nums l) ∨ m ∈ inner l a ∨ m ∈ inner l b ∨ m ∈ B.flatMap (nums l)) → lkp D2 m = lkp D m := fun m h => by
      obtain ⟨h1, h2, h3⟩ := oth m h
      exact L4 m h1 h2 h3
    have inX : ∀ m ∈ inner l x, m ∈ inner l a ∨ m ∈ inner l b := fun m h => List.mem_append.mp (by rw [← ein]; exact List.mem_append_left _ h)
    have inZ : ∀ m ∈ inner l z, m ∈ inner l a ∨ m ∈ inner l b := fun m h => List.mem_append.mp (by rw [← ein]; exact List.mem_append_right _ h)
    have enum : (A ++ x :: z :: B).flatMap (nums l) = A.flatMap (nums l) ++ (num l a :: inner l x ++ (num l b :: inner l z ++ B.flatMap (nums l))) := by
      rw [List.flatMap_append, List.flatMap_cons, List.flatMap_cons, nums_in, nums_in, nx1, ny1]
    have elv2 : (A ++ x :: z :: B).flatMap (lvs l) = A.flatMap (lvs l) ++ (lvs l x ++ (lvs l z ++ B.flatMap (lvs l))) := by rw [List.flatMap_append, List.flatMap_cons, List.flatMap_cons]
    have elv3 : (A ++ x :: z :: B).flatMap (lvs l) = kids.flatMap (lvs l) := by
      rw [elv2, elv]
      cases l with
      | zero => rw [hl0 x rfl, hl0 z rfl, hl0 a rfl, hl0 b rfl, nx1, ny1]
      | succ m => rw [← List.append_assoc (lvs (m + 1) x), hlv m rfl, List.append_assoc]
    refine ⟨⟨?_, fun q hq => ?_⟩, fun nxt ch => ?_, fun m hm => ?_, ⟨[], ?_, ?_⟩, ?_⟩
    · show lkp D2 n = some (.node (ks.set (j - 1) k') ((A ++ x :: z :: B).map (num l)))
      rw [L1, emap, List.map_append, List.map_cons, List.map_cons, nx1, ny1]
    · have hq' : q ∈ A ++ x :: z :: B := hq
      rcases List.mem_append.mp hq' with h | h
      · exact Laid.on (fun m hm => L6 m (.inl (flat h hm))) (laid q (inA q h))
      rcases List.mem_cons.mp h with rfl | h
      · exact laid_kl.mpr ⟨⟨num l b, by rw [nx1]; exact L2⟩, KL.on (fun m hm => L6 m ((inX m hm).elim (fun h => .inr (.inl h)) fun h => .inr (.inr (.inl h)))) kx⟩
      rcases List.mem_cons.mp h with rfl | h
      · exact laid_kl.mpr ⟨⟨nb, by rw [ny1]; exact L3⟩, KL.on (fun m hm => L6 m ((inZ m hm).elim (fun h => .inr (.inl h)) fun h => .inr (.inr (.inl h)))) ky⟩
      · exact Laid.on (fun m hm => L6 m (.inr (.inr (.inr (flat h hm))))) (laid q (inB q h))
    · show Chain D2 ((A ++ x :: z :: B).flatMap (lvs l)) nxt
      rw [elv3]
      cases l with
      | zero =>
        rw [elv, hl0 a rfl, hl0 b rfl] at ch ⊢
        obtain ⟨ps', qs', g1, g2⟩ := hpg rfl
        obtain ⟨qs0, g3⟩ := hpb rfl
        obtain ⟨cA, cR⟩ := Chain.app.mp ch
        have cR' : Chain D (num 0 a :: num 0 b :: B.flatMap (lvs 0)) nxt := cR
        obtain ⟨_, ⟨qs, eb⟩, cB⟩ := cR'
        rw [pb, g3] at eb
        have enb : nb = ((B.flatMap (lvs 0)).head?).getD nxt := by
          injection eb with eb
          injection eb
        refine Chain.app.mpr ⟨Chain.congr (fun m hm => L6 m (.inl ?_)) cA, ?_⟩
        · obtain ⟨q, hq, hm⟩ := List.mem_flatMap.mp hm
          exact flat hq (lvs_sub.subset hm)
        show Chain D2 (num 0 a :: num 0 b :: B.flatMap (lvs 0)) nxt
        refine ⟨⟨ps', L2.trans (congrArg some g1)⟩, ⟨qs', ?_⟩, Chain.congr (fun m hm => L6 m (.inr (.inr (.inr ?_)))) cB⟩
        · rw [← enb]
          exact L3.trans (congrArg some g2)
        · obtain ⟨q, hq, hm⟩ := List.mem_flatMap.mp hm
          exact flat hq (lvs_sub.subset hm)
      | succ m =>
        refine Chain.congr (fun p hp => L6 p ?_) ch
        rw [elv] at hp
        rcases List.mem_append.mp hp with h | h
        · obtain ⟨q, hq, hm⟩ := List.mem_flatMap.mp h
          exact .inl (flat hq (lvs_sub.subset hm))
        rcases List.mem_append.mp h with h | h
        · exact .inr (.inl (lvs_inner h))
        rcases List.mem_append.mp h with h | h
        · exact .inr (.inr (.inl (lvs_inner h)))
        · obtain ⟨q, hq, hm⟩ := List.mem_flatMap.mp h
          exact .inr (.inr (.inr (flat hq (lvs_sub.subset hm))))
    · rw [ef] at hm
      refine L4 m (fun e => hm (by rw [e]; exact List.mem_cons_self ..)) (fun e => hm (List.mem_cons_of_mem _ ?_)) fun e => hm (List.mem_cons_of_mem _ ?_)
      · rw [e]
        exact List.mem_append_right _ (List.mem_cons_self ..)
      · rw [e]
        exact List.mem_append_right _ (List.mem_append_right _ (List.mem_cons_self ..))
    · rw [List.append_nil, ef]
      show (n :: _).Perm (n :: (A ++ x :: z :: B).flatMap (nums l))
      rw [enum]
      refine List.Perm.cons _ (List.Perm.append_left _ ?_)
      rw [List.cons_append, List.cons_append]
      refine List.Perm.cons _ ?_
      refine List.perm_middle.trans ?_
      rw [← List.append_assoc, ← ein, List.append_assoc]
      exact List.perm_middle.symm
    · rw [L5]
      exact (List.filter_eq_self.mpr fun k _ => decide_eq_true List.not_mem_nil).symm
    · show ((A ++ x :: z :: B).flatMap (lvs l)).head? = _
      rw [elv3]
  · rw [if_neg c, if_neg c]
    generalize hw : joinT l a k b = w
    have nw : num l w = num l a := by rw [← hw, join_num]
    have kw : KL D l w := by rw [← hw]; exact join_kl ka kb
    have einw : inner l w = inner l a ++ inner l b := by rw [← hw, join_inner]
    have hlv : ∀ m, l = m + 1 → lvs l w = lvs l a ++ lvs l b := fun m e => by
      subst e
      rw [← hw, join_lvs]
    have hl0 : ∀ x : Tr l, l = 0 → lvs l x = [num l x] := fun x e => by
      subst e
      rfl
    have hpw : l = 0 → ∃ ps : List (Int × Int), pgT l nb w = .leaf ps nb := fun e => by
      subst e
      exact ⟨_, rfl⟩
    have hpb : l = 0 → ∃ qs : List (Int × Int), pgT l nb b = .leaf qs nb := fun e => by
      subst e
      exact ⟨_, rfl⟩
    have e1 : lkp (dropK (setp D (num l a) (pgT l nb w)) (num l b)) n = some (.node ks (kids.map (num l))) := by rw [lkp_dropK, if_neg nbn.symm, lkp_setp_ne nan.symm, he]
    generalize hD2 : setp (dropK (setp D (num l a) (pgT l nb w)) (num l b)) n (.node (ks.eraseIdx (j - 1)) ((kids.map (num l)).eraseIdx (j - 1 + 1))) = D2
    have L1 : lkp D2 n = some (.node (ks.eraseIdx (j - 1)) ((kids.map (num l)).eraseIdx (j - 1 + 1))) := by rw [← hD2]; exact lkp_setp_eq e1
    have L2 : lkp D2 (num l a) = some (pgT l nb w) := by rw [← hD2, lkp_setp_ne nan, lkp_dropK, if_neg nab]; exact lkp_setp_eq pa
    have L4 : ∀ m, m ≠ n → m ≠ num l a → m ≠ num l b → lkp D2 m = lkp D m := fun m h1 h2 h3 => by rw [← hD2, lkp_setp_ne h1, lkp_dropK, if_neg h3, lkp_setp_ne h2]
    have L5 : D2.map (·.1) = (D.map (·.1)).filter fun k => decide (k ≠ num l b) := by rw [← hD2, setp_keys, dropK_keys, setp_keys]
    have L6 : ∀ m, (m ∈ A.flatMap (nums l) ∨ m ∈ inner l a ∨ m ∈ inner l b ∨ m ∈ B.flatMap (nums l)) → lkp D2 m = lkp D m := fun m h => by
      obtain ⟨h1, h2, h3⟩ := oth m h
      exact L4 m h1 h2 h3
    have inW : ∀ m ∈ inner l w, m ∈ inner l a ∨ m ∈ inner l b := fun m h => List.mem_append.mp (by rw [← einw]; exact h)
    have enum : (A ++ w :: B).flatMap (nums l) = A.flatMap (nums l) ++ (num l a :: (inner l a ++ inner l b) ++ B.flatMap (nums l)) := by
      rw [List.flatMap_append, List.flatMap_cons, nums_in, nw, einw]
    have elv2 : (A ++ w :: B).flatMap (lvs l) = A.flatMap (lvs l) ++ (lvs l w ++ B.flatMap (lvs l)) := by rw [List.flatMap_append, List.flatMap_cons]
    refine ⟨⟨?_, fun q hq => ?_⟩, fun nxt ch => ?_, fun m hm => ?_, ⟨[num l b], ?_, ?_⟩, ?_⟩
    · show lkp D2 n = some (.node (ks.eraseIdx (j - 1)) ((A ++ w :: B).map (num l)))
      rw [L1, emap, List.eraseIdx_append_of_length_le (by rw [List.length_map, lA]; omega), List.length_map, lA, show j - 1 + 1 - (j - 1) = 1 by omega, List.map_append, List.map_cons, nw]
      rfl
    · have hq' : q ∈ A ++ w :: B := hq
      rcases List.mem_append.mp hq' with h | h
      · exact Laid.on (fun m hm => L6 m (.inl (flat h hm))) (laid q (inA q h))
      rcases List.mem_cons.mp h with rfl | h
      · exact laid_kl.mpr ⟨⟨nb, by rw [nw]; exact L2⟩, KL.on (fun m hm => L6 m ((inW m hm).elim (fun h => .inr (.inl h)) fun h => .inr (.inr (.inl h)))) kw⟩
      · exact Laid.on (fun m hm => L6 m (.inr (.inr (.inr (flat h hm))))) (laid q (inB q h))
    · show Chain D2 ((A ++ w :: B).flatMap (lvs l)) nxt
      rw [elv2]
      cases l with
      | zero =>
        rw [elv, hl0 a rfl, hl0 b rfl] at ch
        rw [hl0 w rfl, nw]
        obtain ⟨ps', g1⟩ := hpw rfl
        obtain ⟨qs0, g3⟩ := hpb rfl
        obtain ⟨cA, cR⟩ := Chain.app.mp ch
        have cR' : Chain D (num 0 a :: num 0 b :: B.flatMap (lvs 0)) nxt := cR
        obtain ⟨_, ⟨qs, eb⟩, cB⟩ := cR'
        rw [pb, g3] at eb
        have enb : nb = ((B.flatMap (lvs 0)).head?).getD nxt := by
          injection eb with eb
          injection eb
        refine Chain.app.mpr ⟨Chain.congr (fun m hm => L6 m (.inl ?_)) cA, ?_⟩
        · obtain ⟨q, hq, hm⟩ := List.mem_flatMap.mp hm
          exact flat hq (lvs_sub.subset hm)
        show Chain D2 (num 0 a :: B.flatMap (lvs 0)) nxt
        refine ⟨⟨ps', ?_⟩, Chain.congr (fun m hm => L6 m (.inr (.inr (.inr ?_)))) cB⟩
        · rw [← enb]
          exact L2.trans (congrArg some g1)
        · obtain ⟨q, hq, hm⟩ := List.mem_flatMap.mp hm
          exact flat hq (lvs_sub.subset hm)
      | succ m =>
        rw [hlv m rfl, List.append_assoc, ← elv]
        refine Chain.congr (fun p hp => L6 p ?_) ch
        rw [elv] at hp
        rcases List.mem_append.mp hp with h | h
        · obtain ⟨q, hq, hm⟩ := List.mem_flatMap.mp h
          exact .inl (flat hq (lvs_sub.subset hm))
        rcases List.mem_append.mp h with h | h
        · exact .inr (.inl (lvs_inner h))
        rcases List.mem_append.mp h with h | h
        · exact .inr (.inr (.inl (lvs_inner h)))
        · obtain ⟨q, hq, hm⟩ := List.mem_flatMap.mp h
          exact .inr (.inr (.inr (flat hq (lvs_sub.subset hm))))
    · rw [ef] at hm
      refine L4 m (fun e => hm (by rw [e]; exact List.mem_cons_self ..)) (fun e => hm (List.mem_cons_of_mem _ ?_)) fun e => hm (List.mem_cons_of_mem _ ?_)
      · rw [e]
        exact List.mem_append_right _ (List.mem_cons_self ..)
      · rw [e]
        exact List.mem_append_right _ (List.mem_append_right _ (List.mem_cons_self ..))
    · rw [ef]
      show (n :: _).Perm (n :: ((A ++ w :: B).flatMap (nums l) ++ [num l b]))
      rw [enum, List.append_assoc]
      refine List.Perm.cons _ (List.Perm.append_left _ ?_)
      rw [List.cons_append, List.cons_append, List.cons_append]
      refine List.Perm.cons _ ?_
      refine List.perm_middle.trans ?_
      rw [← List.append_assoc]
      exact (List.perm_append_singleton _ _).symm
    · rw [L5]
      refine List.filter_congr fun k _ => ?_
      rw [decide_eq_decide]
      simp
    · show ((A ++ w :: B).flatMap (lvs l)).head? = _
      rw [elv2, elv]
      cases l with
      | zero =>
        rw [hl0 w rfl, hl0 a rfl, hl0 b rfl, nw]
        cases A.flatMap (lvs 0) <;> rfl
      | succ m => rw [hlv m rfl, List.append_assoc]
end K29

namespace K29
open PySem PySem.Spec PyProof.Rows L2 RZ HX TR RP
/-- one level up -/
def stepD (half : Nat) (D : List (Int × Pg)) (l : Nat) (y : Tr l) (e n : Int) : List (Int × Pg) := if half ≤ partsT l y then D else mendPg half D e n
theorem filter_two {K : List Int} {g1 g2 : List Int} : (K.filter fun k => decide (k ∉ g1)).filter (fun k => decide (k ∉ g2)) = K.filter fun k => decide (k ∉ g2 ++ g1) := by
  rw [List.filter_filter]
  refine List.filter_congr fun k _ => ?_
  rw [← Bool.decide_and, decide_eq_decide, List.mem_append]
  exact ⟨fun h z => z.elim h.1 h.2, fun h => ⟨fun z => h (.inl z), fun z => h (.inr z)⟩⟩
theorem head_app2 {α : Type} {xs ys zs : List α} (h : ys.head? = zs.head?) : (xs ++ ys).head? = (xs ++ zs).head? := by
  cases xs with
  | nil => exact h
  | cons => rfl
theorem del_step {room : Nat} (r3 : 3 ≤ room) (r8 : room ≤ 8) {key : Int} {l : Nat} {t : Tr (l + 1)} {x : Tr l} {D0 D1 : List (Int × Pg)} {lo hi a b : Int} {tp : Bool} (g : Gd room (l + 1) t lo hi tp) (gx : Gd room l x a b false)
    (KA : KidAt room l key t x (delT ((room + 1) / 2) key l x) lo hi) (e1 : delT ((room + 1) / 2) key (l + 1) t = upT ((room + 1) / 2) t (placeOf t.keys key) (delT ((room + 1) / 2) key l x)) (hL : Laid D0 (l + 1) t) (nd : (nums (l + 1) t).Nodup)
    (d : Del room l key D0 D1 x (delT ((room + 1) / 2) key l x)) : Del room (l + 1) key D0 (stepD ((room + 1) / 2) D1 l (delT ((room + 1) / 2) key l x) (num (l + 1) t) (num l x)) t (delT ((room + 1) / 2) key (l + 1) t) := by
  have S := del_s r3 r8 (key := key) gx
  rw [e1]
  generalize hy : delT ((room + 1) / 2) key l x = y at *
  obtain ⟨j, ej⟩ : ∃ j, placeOf t.keys key = j := ⟨_, rfl⟩
  have hj := KA.hj
  have kb := KA.kb
  have kok := KA.ok
  have kwf := KA.wf
  have kpr := KA.pr
  rw [ej] at hj kb kok kwf kpr ⊢
  have jl := (List.getElem?_eq_some_iff.mp hj).1
  have setl : (t.kids.set j y).length = t.kids.length := List.length_set
  have hyj : (t.kids.set j y)[j]? = some y := List.getElem?_set_self jl
  obtain ⟨es, ek⟩ := set_app y hj
  obtain ⟨hk1, hk2⟩ := hL
  obtain ⟨gone, p1, q1⟩ := d.keys
  generalize hkk : t.kids.set j y = kids at *
  generalize hA : t.kids.take j = A at es ek
  generalize hB : t.kids.drop (j + 1) = B at es ek
  have et : nums (l + 1) t = num (l + 1) t :: (A.flatMap (nums l) ++ (nums l x ++ B.flatMap (nums l))) := by
    show num (l + 1) t :: t.kids.flatMap (nums l) = _
    rw [ek, List.flatMap_append, List.flatMap_cons]
  have ek1 : kids.flatMap (nums l) = A.flatMap (nums l) ++ (nums l y ++ B.flatMap (nums l)) := by rw [es, List.flatMap_append, List.flatMap_cons]
  have pk : (nums (l + 1) t).Perm ((num (l + 1) t :: kids.flatMap (nums l)) ++ gone) := by
    rw [et, ek1, List.cons_append, List.append_assoc]
    refine List.Perm.cons _ (List.Perm.append_left _ ?_)
    refine (List.Perm.append_right _ p1).trans ?_
    rw [List.append_assoc, List.append_assoc]
    exact List.Perm.append_left _ List.perm_append_comm
  have ndk : (num (l + 1) t :: kids.flatMap (nums l)).Nodup := (pk.nodup_iff.mp nd).sublist (List.sublist_append_left _ _)
  rw [et] at nd
  obtain ⟨nd1, nd2⟩ := List.nodup_cons.mp nd
  obtain ⟨_, ndr, ndA⟩ := List.pairwise_append.mp (List.nodup_iff_pairwise_ne.mp nd2)
  obtain ⟨_, _, ndB⟩ := List.pairwise_append.mp ndr
  have frA : ∀ m ∈ A.flatMap (nums l), lkp D1 m = lkp D0 m := fun m hm => d.frame m fun z => ndA m hm m (List.mem_append_left _ z) rfl
  have frB : ∀ m ∈ B.flatMap (nums l), lkp D1 m = lkp D0 m := fun m hm => d.frame m fun z => ndB m z m hm rfl
  have frt : lkp D1 (num (l + 1) t) = lkp D0 (num (l + 1) t) := d.frame _ fun z => nd1 (List.mem_append_right _ (List.mem_append_left _ z))
  have emap : kids.map (num l) = t.kids.map (num l) := by rw [es, ek, List.map_append, List.map_append, List.map_cons, List.map_cons, S.num]
  have he : lkp D1 (num (l + 1) t) = some (.node t.keys (kids.map (num l))) := by rw [frt, emap]; exact hk1
  have laidK : ∀ z ∈ kids, Laid D1 l z := fun z hz => by
    rw [es] at hz
    rcases List.mem_append.mp hz with h | h
    · exact Laid.on (fun m hm => frA m (List.mem_flatMap.mpr ⟨z, h, hm⟩)) (hk2 z (by rw [ek]; exact List.mem_append_left _ h))
    rcases List.mem_cons.mp h with rfl | h
    · exact d.laid
    · exact Laid.on (fun m hm => frB m (List.mem_flatMap.mpr ⟨z, h, hm⟩)) (hk2 z (by rw [ek]; exact List.mem_append_right _ (List.mem_cons_of_mem _ h)))
  have elt : lvs (l + 1) t = A.flatMap (lvs l) ++ (lvs l x ++ B.flatMap (lvs l)) := by
    show t.kids.flatMap (lvs l) = _
    rw [ek, List.flatMap_append, List.flatMap_cons]
  have elk : kids.flatMap (lvs l) = A.flatMap (lvs l) ++ (lvs l y ++ B.flatMap (lvs l)) := by rw [es, List.flatMap_append, List.flatMap_cons]
  have sub : ∀ {X : List (Tr l)} {m : Int}, m ∈ X.flatMap (lvs l) → m ∈ X.flatMap (nums l) := fun hm => by
    obtain ⟨q, hq, hm⟩ := List.mem_flatMap.mp hm
    exact List.mem_flatMap.mpr ⟨q, hq, lvs_sub.subset hm⟩
  have hdXB : (lvs l y ++ B.flatMap (lvs l)).head? = (lvs l x ++ B.flatMap (lvs l)).head? := head_app d.hd
  have hdK : (kids.flatMap (lvs l)).head? = (lvs (l + 1) t).head? := by
    rw [elk, elt]
    exact head_app2 hdXB
  have chainK : ∀ nxt, Chain D0 (lvs (l + 1) t) nxt → Chain D1 (kids.flatMap (lvs l)) nxt := fun nxt ch => by
    rw [elt] at ch
    obtain ⟨cA, cR⟩ := Chain.app.mp ch
    obtain ⟨cX, cB⟩ := Chain.app.mp cR
    rw [elk]
    refine Chain.app.mpr ⟨?_, Chain.app.mpr ⟨d.chain _ cX, Chain.congr (fun m hm => frB m (sub hm)) cB⟩⟩
    rw [hdXB]
    exact Chain.congr (fun m hm => frA m (sub hm)) cA
  have frame : ∀ m, m ∉ nums (l + 1) t → lkp D1 m = lkp D0 m := fun m hm => d.frame m fun z => hm (by rw [et]; exact List.mem_cons_of_mem _ (List.mem_append_right _ (List.mem_append_left _ z)))
  unfold stepD
  by_cases c : (room + 1) / 2 ≤ partsT l y
  · rw [if_pos c]
    have e2 : upT ((room + 1) / 2) t j y = ndT (num (l + 1) t) t.keys kids := by
      unfold upT
      rw [if_pos c, hkk]
    rw [e2]
    exact ⟨⟨he, laidK⟩, chainK, frame, ⟨gone, pk, q1⟩, hdK⟩
  · rw [if_neg c]
    have e2 : upT ((room + 1) / 2) t j y = mendT ((room + 1) / 2) (num (l + 1) t) t.keys kids j := by
      unfold upT
      rw [if_neg c, hkk]
    have lo_ : (room + 1) / 2 ≤ partsT l y + 1 := S.lo_
    have two := KA.two
    have rise : (kids.flatMap (prs l)).Pairwise fun a b => a.1 < b.1 := by
      rw [kpr]
      exact g.rise.filter _
    obtain ⟨p, q, k, M, _⟩ := mend_ok (n := num (l + 1) t) r3 r8 kb hyj (by omega) S.kw (by omega) kwf kok rise g.lo0 g.hi1
    have md := mend_dyn (half := (room + 1) / 2) hyj M.ha M.hb M.hk he ndk laidK
    rw [S.num] at md
    rw [e2]
    obtain ⟨gone2, p2, q2⟩ := md.keys
    refine ⟨md.laid, fun nxt ch => md.chain nxt (chainK nxt ch), fun m hm => ?_, ⟨gone2 ++ gone, ?_, ?_⟩, md.hd.trans hdK⟩
    · rw [md.frame m fun z => hm (pk.mem_iff.mpr (List.mem_append_left _ z)), frame m hm]
    · refine pk.trans ?_
      rw [← List.append_assoc]
      exact List.Perm.append_right _ p2
    · rw [q2, q1, filter_two]
/-- the root, gone where it has one kid -/
def rootT : (l : Nat) → Tr l → Sigma Tr
  | 0, t => ⟨0, t⟩
  | l + 1, t => match t.kids with
    | [c] => ⟨l, c⟩
    | _ => ⟨l + 1, t⟩
def rootD (D : List (Int × Pg)) (root : Int) : List (Int × Pg) × Int := match lkp D root with
  | some (.node _ [c]) => (dropK D root, c)
  | _ => (D, root)
theorem wf_top {room : Nat} (r3 : 3 ≤ room) : ∀ {l : Nat} {s : Sh l}, WfSh room l false s → WfSh room l true s
  | 0, s, h => ⟨Nat.zero_le _, h.2⟩
  | l + 1, s, ⟨h1, h2, h3⟩ => ⟨by
      have z : (room + 1) / 2 ≤ s.ks.length := h1
      show 2 ≤ s.ks.length
      omega, h2, h3⟩
theorem perm_gone {K N G : List Int} (nd : K.Nodup) (p : K.Perm (N ++ G)) : (K.filter fun k => decide (k ∉ G)).Perm N := by
  have ndp := p.nodup_iff.mp nd
  obtain ⟨_, _, ne⟩ := List.pairwise_append.mp (List.nodup_iff_pairwise_ne.mp ndp)
  have z := p.filter fun k => decide (k ∉ G)
  have f1 : (N.filter fun k => decide (k ∉ G)) = N := List.filter_eq_self.mpr fun k hk => decide_eq_true fun h => ne k hk k h rfl
  have f2 : (G.filter fun k => decide (k ∉ G)) = [] := List.filter_eq_nil_iff.mpr fun k hk => by simpa using hk
  rw [List.filter_append, f1, f2, List.append_nil] at z
  exact z
theorem tree_gd {room l : Nat} {t : Tr l} {S : List (Int × Pg)} (h : TR.Tree room l t S) : Gd room l t 0 1000000001 true := ⟨h.keyB, h.wf, h.keyOk, h.rising, Int.le_refl 0, Int.le_refl _⟩
/-- a tree behind a drop is a tree -/
theorem del_tree {room : Nat} {key : Int} {l : Nat} {t : Tr l} {S D1 : List (Int × Pg)} (h : TR.Tree room l t S) (d : Del room l key S D1 t (delT ((room + 1) / 2) key l t)) :
    (rootD D1 (num l t)).2 = num (rootT l (delT ((room + 1) / 2) key l t)).1 (rootT l (delT ((room + 1) / 2) key l t)).2 ∧ prs (rootT l (delT ((room + 1) / 2) key l t)).1 (rootT l (delT ((room + 1) / 2) key l t)).2 = (prs l t).filter (fun q => decide (q.1 ≠ key)) ∧ (rootT l (delT ((room + 1) / 2) key l t)).1 ≤ l ∧ ((rootD D1 (num l t)).1.map (·.1)).Nodup ∧
    ∀ S2 : List (Int × Pg), S2.Perm (rootD D1 (num l t)).1 → S2.Pairwise (fun a b => a.1 < b.1) → TR.Tree room (rootT l (delT ((room + 1) / 2) key l t)).1 (rootT l (delT ((room + 1) / 2) key l t)).2 S2 := by
  have X := del_s h.r3 h.r8 (key := key) (tree_gd h)
  have r3 := h.r3
  generalize hy : delT ((room + 1) / 2) key l t = y at *
  obtain ⟨gone, p1, q1⟩ := d.keys
  have ndS : (S.map (·.1)).Nodup := h.perm.nodup_iff.mpr h.nodup
  have pD : (D1.map (·.1)).Perm (nums l y) := by
    rw [q1]
    exact perm_gone ndS (h.perm.trans p1)
  have ndy : (nums l y).Nodup := (p1.nodup_iff.mp h.nodup).sublist (List.sublist_append_left _ _)
  have sub : ∀ n ∈ nums l y, n ∈ nums l t := fun n hn => p1.mem_iff.mpr (List.mem_append_left _ hn)
  have few : (nums l y).length ≤ 1000 := by
    have z := p1.length_eq
    rw [List.length_append] at z
    have := h.few
    omega
  have ch := d.chain 0 (chain_of h.next)
  have rise : (prs l y).Pairwise fun a b => a.1 < b.1 := by
    rw [X.pr]
    exact h.rising.filter _
  have good : ∀ q ∈ prs l y, 0 ≤ q.1 ∧ q.1 ≤ 1000000000 ∧ 0 ≤ q.2 ∧ q.2 ≤ 1000000000 := fun q hq => by
    rw [X.pr] at hq
    exact h.good q (List.mem_filter.mp hq).1
  have ndD : (D1.map (·.1)).Nodup := pD.nodup_iff.mpr ndy
  have stay : WfSh room l true (shp l y) → (rootD D1 (num l t)) = (D1, num l t) → rootT l y = ⟨l, y⟩ → ((rootD D1 (num l t)).2 = num (rootT l y).1 (rootT l y).2 ∧ prs (rootT l y).1 (rootT l y).2 = (prs l t).filter (fun q => decide (q.1 ≠ key)) ∧ (rootT l y).1 ≤ l ∧ ((rootD D1 (num l t)).1.map (·.1)).Nodup ∧
      ∀ S2 : List (Int × Pg), S2.Perm (rootD D1 (num l t)).1 → S2.Pairwise (fun a b => a.1 < b.1) → TR.Tree room (rootT l y).1 (rootT l y).2 S2) := by
    intro w e1 e2
    rw [e1, e2]
    refine ⟨X.num.symm, X.pr, Nat.le_refl _, ndD, fun S2 ps so => ?_⟩
    have nd2 : (S2.map (·.1)).Nodup := (ps.map (·.1)).nodup_iff.mpr ndD
    exact ⟨r3, h.r8, w, ndy, fun k hk => h.range k (sub k hk), (ps.map (·.1)).trans pD, so, d.laid.congr (fun k => lkp_perm ndD ps k), next_of (Chain.congr (fun n _ => lkp_perm ndD ps n) ch), X.kb, X.ok, rise, good, few⟩
  cases l with
  | zero =>
    refine stay ⟨Nat.zero_le _, X.hi_⟩ ?_ rfl
    obtain ⟨nx, hk⟩ := d.laid
    rw [X.num] at hk
    unfold rootD
    rw [hk]
  | succ l =>
    obtain ⟨hk, hkids⟩ := d.laid
    rw [X.num] at hk
    have lo_ : 2 ≤ y.kids.length + 1 := X.lo_
    have hi_ : y.kids.length ≤ room := X.hi_
    cases ck : y.kids with
    | nil => rw [ck] at lo_; simp at lo_
    | cons c rest =>
      cases rest with
      | cons c2 rest =>
        refine stay ⟨?_, ?_, fun k hk => ?_⟩ ?_ ?_
        · show 2 ≤ (y.kids.map (shp l)).length
          rw [List.length_map, ck]
          simp
        · show (y.kids.map (shp l)).length ≤ room
          rw [List.length_map]
          exact hi_
        · obtain ⟨z, hz, rfl⟩ := List.mem_map.mp hk
          exact X.kw z hz
        · unfold rootD
          rw [hk, ck]
          rfl
        · show (match y.kids with | [c] => (⟨l, c⟩ : Sigma Tr) | _ => ⟨l + 1, y⟩) = _
          rw [ck]
      | nil =>
        have eT : rootT (l + 1) y = ⟨l, c⟩ := by
          show (match y.kids with | [c] => (⟨l, c⟩ : Sigma Tr) | _ => ⟨l + 1, y⟩) = _
          rw [ck]
        have eD : rootD D1 (num (l + 1) t) = (dropK D1 (num (l + 1) t), num l c) := by
          unfold rootD
          rw [hk, ck]
          rfl
        have mc : c ∈ y.kids := by rw [ck]; exact List.mem_cons_self ..
        have en : nums (l + 1) y = num (l + 1) y :: nums l c := by
          show num (l + 1) y :: y.kids.flatMap (nums l) = _
          rw [ck, List.flatMap_cons, List.flatMap_nil, List.append_nil]
        have ep : prs (l + 1) y = prs l c := by
          show y.kids.flatMap (prs l) = _
          rw [ck, List.flatMap_cons, List.flatMap_nil, List.append_nil]
        have el : lvs (l + 1) y = lvs l c := by
          show y.kids.flatMap (lvs l) = _
          rw [ck, List.flatMap_cons, List.flatMap_nil, List.append_nil]
        have kbc : KeyB l c 0 1000000001 := by
          have z : KBs (KeyB l) 0 y.keys y.kids 1000000001 := X.kb
          rw [ck] at z
          cases cy : y.keys with
          | nil =>
            rw [cy] at z
            exact z
          | cons k ks =>
            rw [cy] at z
            cases ks <;> exact z.2.elim
        rw [en] at ndy pD few
        obtain ⟨nn, ndc⟩ := List.nodup_cons.mp ndy
        rw [eT, eD]
        have keyD : ((dropK D1 (num (l + 1) t)).map (·.1)).Perm (nums l c) := by
          rw [dropK_keys]
          have z := pD.filter fun k => decide (k ≠ num (l + 1) t)
          have f1 : ((nums l c).filter fun k => decide (k ≠ num (l + 1) t)) = nums l c := List.filter_eq_self.mpr fun k hk => decide_eq_true fun e => nn (by rw [X.num, ← e]; exact hk)
          rw [List.filter_cons, X.num, if_neg (by simp), f1] at z
          exact z
        have ndD2 : ((dropK D1 (num (l + 1) t)).map (·.1)).Nodup := keyD.nodup_iff.mpr ndc
        refine ⟨rfl, ep.symm.trans X.pr, Nat.le_succ l, ndD2, fun S2 ps so => ?_⟩
        have lk : ∀ n ∈ nums l c, lkp S2 n = lkp D1 n := fun n hn => by
          rw [lkp_perm ndD2 ps n, lkp_dropK, if_neg fun e => nn (by rw [X.num, ← e]; exact hn)]
        rw [ep] at rise good
        rw [el] at ch
        exact ⟨r3, h.r8, wf_top r3 (X.kw c mc), ndc, fun k hk => h.range k (sub k (by rw [en]; exact List.mem_cons_of_mem _ hk)), (ps.map (·.1)).trans keyD, so, Laid.on lk (hkids c mc), next_of (Chain.congr (fun n hn => lk n (lvs_sub.subset hn)) ch), kbc, X.ok.2.2.2 c mc, rise, good, by rw [List.length_cons] at few; show (nums l c).length ≤ 1000; omega⟩
end K29

namespace K29
open PySem PySem.Spec PyProof.Rows L2 RZ HX TR RP
/-- two pages of a kind that fit together -/
def Pair2 : Pg → Pg → Prop
  | .leaf ps _, .leaf qs _ => ps ≠ [] ∧ ps.length + qs.length ≤ 1000
  | .node ks kids, .node js jids => kids ≠ [] ∧ kids.length + jids.length ≤ 1000 ∧ ks.length + js.length + 1 ≤ 1000
  | _, _ => False
section
variable {P : Program} {w : World} {K : PySem.W.Frag} {mg : Str → Option Value} {base : Heap}
def sp_joined : Sp := fun vs H Q _ => ∃ (v1 v2 : V) (g1 g2 : Pg) (k : Int), vs = [v1, v2, .int k] ∧ PgAt H v1 g1 ∧ PgAt H v2 g2 ∧ Pair2 g1 g2 ∧ ∀ (H' : Hp) (a : V), Same H H' → PgAt H' a (joinPg k g1 g2) → Q a H'
theorem ok_joined (T : TX K mg) : FnOk P w K mg base CX0 1 (He.ga K "joined") T.fd_joined ["left", "right", "key"] sp_joined := by
  refine T.F_joined.ok sc_joined (fun vs H Q E h => ?_) (fun cdv A outer st H vs Q E hr h => ?_)
  · obtain ⟨v1, v2, g1, g2, k, rfl, _⟩ := h
    rfl
  · obtain ⟨v1, v2, g1, g2, k, rfl, h1, h2, hp, kq⟩ := h
    refine ⟨_, PSs.nox (pss_cons (ps_if (pt_cmpR op_eq (pe_ix ix_tup (pv 0) pe_int (fun _ _ => rfl)) pe_str (nomark _))
 (pss_one (ps_ret (pe_tup (pa_cons pe_str (pa_cons (pe_op RU.op_catG (pe_ix ix_tup (pv 0) pe_int (fun _ _ => rfl)) (pe_ix ix_tup (pv 1) pe_int (fun _ _ => rfl))) (pa_cons (pe_ix ix_tup (pv 1) pe_int (fun _ _ => rfl)) pa_nil))))))
 pss_nil)
 (pss_one (ps_ret (pe_tup (pa_cons pe_str (pa_cons (pe_tup (StX.pa_star (pe_ix ix_tup (pv 0) pe_int (fun _ _ => rfl)) (pa_cons (pv 2) (StX.pa_star (pe_ix ix_tup (pv 1) pe_int (fun _ _ => rfl)) pa_nil)))) (pa_cons (pe_op RU.op_catG (pe_ix ix_tup (pv 0) pe_int (fun _ _ => rfl)) (pe_ix ix_tup (pv 1) pe_int (fun _ _ => rfl))) pa_nil))))))), ?_⟩
    cases g1 with
    | leaf ps nx =>
      cases g2 with
      | node ks kids => exact hp.elim
      | leaf qs my =>
        obtain ⟨t1, p1, rfl, ht1, xs, hx1, hxs⟩ := h1
        obtain ⟨t2, p2, rfl, ht2, ys, hy1, hys⟩ := h2
        obtain ⟨n1, n2⟩ := hp
        have lx := hxs.length
        have ly := hys.length
        refine ⟨_, rfl, t1, _, _, _, rfl, rfl, SqT.of ht1, rfl, rfl, _, rfl, iteT ?_⟩
        obtain ⟨o1, hx1f, ho1⟩ := id hx1
        refine ⟨_, rfl, t1, _, _, _, rfl, rfl, SqT.of ht1, rfl, _, rfl, t2, _, _, _, rfl, rfl, SqT.of ht2, rfl, p1, p2, xs, ys, o1, rfl, rfl, hx1f, ho1, hy1.sq, ?_, ?_, fun p o H1 s1 hp1 ho => ?_⟩
        · intro e
          rw [e] at lx
          exact n1 (List.eq_nil_of_length_eq_zero lx.symm)
        · exact Nat.le_trans (by omega : _ ≤ 1000) (by decide)
        refine ⟨_, rfl, t2, _, _, _, rfl, rfl, SqT.of (s1 _ _ ht2), rfl, by show 3 ≤ sizeLine; decide, fun t ht => ?_⟩
        have s2 : Same H1 (upd H1 t (.tup [.str "leaf", .ref p, .int my])) := same_new ht
        have k2 := Keep.of (s1.trans s2)
        exact kq _ (.ref t) (s1.trans s2) ⟨t, p, rfl, upd_same, xs ++ ys, ⟨o, s2 _ _ hp1, ho⟩, paired_app (paired_imp (fun _ _ r => PrAt.keep k2 r) hxs) (paired_imp (fun _ _ r => PrAt.keep k2 r) hys)⟩
    | node ks kids =>
      cases g2 with
      | leaf qs my => exact hp.elim
      | node js jids =>
        obtain ⟨t1, a1, b1, rfl, ht1, ha1, hb1⟩ := h1
        obtain ⟨t2, a2, b2, rfl, ht2, ha2, hb2⟩ := h2
        obtain ⟨n1, n2, n3⟩ := hp
        obtain ⟨o1, hb1f, ho1⟩ := id hb1
        refine ⟨_, rfl, t1, _, _, _, rfl, rfl, SqT.of ht1, rfl, rfl, _, rfl, iteF ?_⟩
        have eK : ks.map V.int ++ V.int k :: (js.map V.int ++ []) = (ks ++ k :: js).map V.int := by rw [List.append_nil, List.map_append, List.map_cons]
        refine ⟨_, rfl, t1, _, _, _, rfl, rfl, SqT.of ht1, rfl, a1, _, rfl, .inl (SqT.of ha1), _, rfl, _, rfl, t2, _, _, _, rfl, rfl, SqT.of ht2, rfl, a2, _, rfl, .inl (SqT.of ha2), ?_, fun p hp => ?_⟩
        · rw [eK, List.length_map, List.length_append, List.length_cons]
          exact Nat.le_trans (by omega : _ ≤ 1000) (by decide)
        rw [eK]
        have s1 : Same H (upd H p (.tup ((ks ++ k :: js).map V.int))) := same_new hp
        have hp1 : upd H p (.tup ((ks ++ k :: js).map V.int)) p = some (.tup ((ks ++ k :: js).map V.int)) := upd_same
        generalize upd H p (.tup ((ks ++ k :: js).map V.int)) = H1 at s1 hp1
        refine ⟨_, rfl, t1, _, _, _, rfl, rfl, SqT.of (s1 _ _ ht1), rfl, _, rfl, t2, _, _, _, rfl, rfl, SqT.of (s1 _ _ ht2), rfl, b1, b2, _, _, o1, rfl, rfl, s1 _ _ hb1f, ho1, (hb2.same s1).sq, ?_, ?_, fun q o H2 s2 hq ho => ?_⟩
        · intro e
          exact n1 (List.map_eq_nil_iff.mp e)
        · rw [List.length_map, List.length_map]
          exact Nat.le_trans (by omega : _ ≤ 1000) (by decide)
        refine ⟨by show 3 ≤ sizeLine; decide, fun t ht => ?_⟩
        have s3 : Same H2 (upd H2 t (.tup [.str "node", .ref p, .ref q])) := same_new ht
        refine kq _ (.ref t) ((s1.trans s2).trans s3) ⟨t, p, q, rfl, upd_same, s3 _ _ (s2 _ _ hp1), o, s3 _ _ ?_, ho⟩
        rw [hq, List.map_append]
def sp_mate_in : Sp := fun vs H Q _ => ∃ (a : Addr) (kids : List Int) (j : Nat) (n : Int), vs = [.ref a, .int n] ∧ FzT H a (kids.map V.int) ∧ kids.Nodup ∧ kids[j]? = some n ∧ 2 ≤ kids.length ∧ Q (.int (kids.getD (if j = 0 then 1 else j - 1) 0)) H
theorem ok_mate_in (T : TX K mg) : FnOk P w K mg base CX0 1 (He.ga K "mate_in") T.fd_mate_in ["kids", "number"] sp_mate_in := by
  refine T.F_mate_in.ok sc_mate_in (fun vs H Q E h => ?_) (fun cdv A outer st H vs Q E hr h => ?_)
  · obtain ⟨a, kids, j, n, rfl, _⟩ := h
    rfl
  · obtain ⟨a, kids, j, n, rfl, ha, nd, hj, two, kq⟩ := h
    refine ⟨_, PSs.nox (pss_cons (ps_set (i := 2) sc_mate_in.nd rfl (Or.inl rfl) (RU.pe_bmF PySem.F.slot_tuple_index PySem.F.type_tuple_index RU.mt_tindexI (pv 0) (pa_cons (pv 1) pa_nil)))
 (pss_one (ps_ret (pe_ifExp (pt_cmpR op_gt (pv 2) pe_int (nomark _)) (pe_ix ix_tup (pv 0) (pe_op op_sub (pv 2) pe_int) (fun _ _ => rfl)) (pe_ix ix_tup (pv 0) pe_int (fun _ _ => rfl)))))), ?_⟩
    obtain ⟨o, haf, ho⟩ := id ha
    have ei := idx_at nd hj
    have jl := (List.getElem?_eq_some_iff.mp hj).1
    refine ⟨_, rfl, ⟨a, o, _, rfl, haf, ho⟩, _, rfl, a, kids, n, rfl, rfl, ha.sq, List.mem_of_getElem? hj, ?_⟩
    rw [ei]
    refine ⟨_, rfl, _, _, rfl, rfl, _, rfl, ?_⟩
    by_cases c : j = 0
    · subst c
      rw [decide_eq_false (by omega : ¬ ((0 : Int) < ((0 : Nat) : Int)))]
      rw [if_pos rfl] at kq
      refine iteF ⟨_, rfl, a, _, _, _, rfl, rfl, ha.sq, at_of (j := 1) (v := .int (kids.getD 1 0)) ?_ rfl, kq⟩
      rw [List.getElem?_map, List.getD_eq_getElem?_getD, List.getElem?_eq_getElem (by omega)]
      rfl
    · rw [decide_eq_true (by omega : (0 : Int) < ((j : Nat) : Int))]
      rw [if_neg c] at kq
      refine iteT ⟨_, rfl, _, rfl, _, _, rfl, rfl, a, _, _, _, rfl, rfl, ha.sq, at_of (j := j - 1) (v := .int (kids.getD (j - 1) 0)) ?_ (by omega), kq⟩
      rw [List.getElem?_map, List.getD_eq_getElem?_getD, List.getElem?_eq_getElem (by omega)]
      rfl
theorem dset {H : Hp} {d : Addr} {es : List (Key × V)} {D : List (Int × Pg)} {k : Int} {g0 g : Pg} {v : V} (h1 : H d = some (.dK es)) (h2 : Paired (EnAt H) es D) (hg : lkp D k = some g0) (hv : PgAt H v g) : Keep H (upd H d (.dK (putK es (.inl k) v))) ∧ But d H (upd H d (.dK (putK es (.inl k) v))) ∧
    ∃ es2, upd H d (.dK (putK es (.inl k) v)) d = some (.dK es2) ∧ Paired (EnAt (upd H d (.dK (putK es (.inl k) v)))) es2 (setp D k g) := by
  have k1 : Keep H (upd H d (.dK (putK es (.inl k) v))) := (Keep.refl H).upd fun ys e => by rw [h1] at e; cases e; rfl
  refine ⟨k1, (But.refl d H).upd, _, upd_same, ?_⟩
  refine (congrArg (fun z => Paired (EnAt (upd H d (.dK (putK es (.inl k) v)))) z (setp D k g)) (putK_old h2 hg)).mpr ?_
  exact DctAt.set (k := k) (hv.keep k1) (paired_imp (fun _ _ (r : EnAt H _ _) => (⟨r.1, r.2.keep k1⟩ : EnAt _ _ _)) h2)
theorem ddel_paired {H : Hp} {k : Int} : ∀ {es : List (Key × V)} {D : List (Int × Pg)}, Paired (EnAt H) es D → Paired (EnAt H) (L2.dropK es (.inl k)) (dropK D k)
  | _, _, .nil => .nil
  | e :: es, q :: D, .cons r rs => by
    have ih := ddel_paired (k := k) rs
    unfold L2.dropK dropK at ih ⊢
    rw [List.filter_cons, List.filter_cons]
    by_cases c : q.1 = k
    · rw [if_neg (by simpa [r.1] using c), if_neg (by simpa using c)]
      exact ih
    · rw [if_pos (by simpa [r.1] using c), if_pos (by simpa using c)]
      exact .cons r ih
theorem ddel {H : Hp} {d : Addr} {es : List (Key × V)} {D : List (Int × Pg)} {k : Int} (h1 : H d = some (.dK es)) (h2 : Paired (EnAt H) es D) : Keep H (upd H d (.dK (L2.dropK es (.inl k)))) ∧ But d H (upd H d (.dK (L2.dropK es (.inl k)))) ∧
    ∃ es2, upd H d (.dK (L2.dropK es (.inl k))) d = some (.dK es2) ∧ Paired (EnAt (upd H d (.dK (L2.dropK es (.inl k))))) es2 (dropK D k) := by
  have k1 : Keep H (upd H d (.dK (L2.dropK es (.inl k)))) := (Keep.refl H).upd fun ys e => by rw [h1] at e; cases e; rfl
  exact ⟨k1, (But.refl d H).upd, _, upd_same, paired_imp (fun _ _ (r : EnAt H _ _) => (⟨r.1, r.2.keep k1⟩ : EnAt _ _ _)) (ddel_paired h2)⟩
theorem dval {H : Hp} {es : List (Key × V)} {D : List (Int × Pg)} {k : Int} {g : Pg} (h2 : Paired (EnAt H) es D) (hg : lkp D k = some g) : (valV es (.inl k)).isSome = true := by
  rcases valV_of (k := k) h2 with ⟨z, _⟩ | ⟨_, _, _, z, _⟩
  · rw [z] at hg
    cases hg
  · rw [z]
    rfl
/-- what mend wants of the pages -/
structure MendP (half : Nat) (D : List (Int × Pg)) (e n : Int) (j : Nat) (ks kids : List Int) (gl gr : Pg) : Prop where
  he : lkp D e = some (.node ks kids)
  nd : kids.Nodup
  hj : kids[j]? = some n
  two : 2 ≤ kids.length
  lk : ks.length + 1 = kids.length
  few : kids.length ≤ 1000
  pl : lkp D (kids.getD (j - 1) 0) = some gl
  pr : lkp D (kids.getD (j - 1 + 1) 0) = some gr
  ne : kids.getD (j - 1) 0 ≠ kids.getD (j - 1 + 1) 0
  nel : kids.getD (j - 1) 0 ≠ e
  ner : kids.getD (j - 1 + 1) 0 ≠ e
  fit : Pair2 gl gr
  cut : half < Pg.parts (if j = 0 then gr else gl) → CutOk (if j = 0 then Pg.parts gl + 1 else Pg.parts gl - 1) (joinPg (ks.getD (j - 1) 0) gl gr) ∧ PgW (joinPg (ks.getD (j - 1) 0) gl gr) ∧ 1 ≤ Pg.parts gl
theorem MendP.eq {half : Nat} {D : List (Int × Pg)} {e n : Int} {j : Nat} {ks kids : List Int} {gl gr : Pg} (m : MendP half D e n j ks kids gl gr) : mendPg half D e n =
    if half < Pg.parts (if j = 0 then gr else gl) then setp (setp (setp D (kids.getD (j - 1) 0) (cutPg (if j = 0 then Pg.parts gl + 1 else Pg.parts gl - 1) (kids.getD (j - 1 + 1) 0) (joinPg (ks.getD (j - 1) 0) gl gr)).1) (kids.getD (j - 1 + 1) 0) (cutPg (if j = 0 then Pg.parts gl + 1 else Pg.parts gl - 1) (kids.getD (j - 1 + 1) 0) (joinPg (ks.getD (j - 1) 0) gl gr)).2.2) e
      (.node (ks.set (j - 1) (cutPg (if j = 0 then Pg.parts gl + 1 else Pg.parts gl - 1) (kids.getD (j - 1 + 1) 0) (joinPg (ks.getD (j - 1) 0) gl gr)).2.1) kids)
    else setp (dropK (setp D (kids.getD (j - 1) 0) (joinPg (ks.getD (j - 1) 0) gl gr)) (kids.getD (j - 1 + 1) 0)) e (.node (ks.eraseIdx (j - 1)) (kids.eraseIdx (j - 1 + 1))) := by
  unfold mendPg
  rw [m.he]
  dsimp only
  rw [idx_at m.nd m.hj, m.pl, m.pr]
def sp_mend (K : PySem.W.Frag) : Sp := fun vs H Q _ => ∃ (s dx d : Addr) (room root : Int) (half : Nat) (e n : Int) (D : List (Int × Pg)) (j : Nat) (ks kids : List Int) (gl gr : Pg), vs = [.ref s, .int e, .int n] ∧ Bk K H s dx room root (half : Int) d ∧ DctAt H d D ∧ D.length ≤ 100000 ∧ MendP half D e n j ks kids gl gr ∧
  ∀ H' : Hp, But d H H' → DctAt H' d (mendPg half D e n) → Q .non H'
theorem ok_mend (T : TX K mg) : FnOk P w K mg base CX0 3 (He.ga K "mend") T.fd_mend ["book", "elder", "number"] (sp_mend K) := by
  have G_mate_in : FnOk P w K mg base CX0 1 (He.ga K "mate_in") T.fd_mate_in ["kids", "number"] sp_mate_in := ok_mate_in T
  have b_mate_in := b_mate_in T
  have G_joined : FnOk P w K mg base CX0 1 (He.ga K "joined") T.fd_joined ["left", "right", "key"] sp_joined := ok_joined T
  have b_joined := b_joined T
  have G_parted : FnOk P w K mg base CX0 1 (He.ga K "parted") T.fd_parted ["page", "cut", "right"] sp_parted := ok_parted T
  have b_parted := b_parted T
  have G_Book_many_parts : FnOk P w K mg base CX0 2 (He.ma K (He.ga K "Book") "many_parts") T.fd_Book_many_parts ["self", "number"] (sp_many_parts K) := ok_many_parts T
  have b_Book_many_parts := b_Book_many_parts T
  refine T.F_mend.ok sc_mend (fun vs H Q E h => ?_) (fun cdv A outer st H vs Q E hr h => ?_)
  · obtain ⟨s, dx, d, room, root, half, e, n, D, j, ks, kids, gl, gr, rfl, _⟩ := h
    rfl
  · obtain ⟨s, dx, d, room, root, half, e, n, D, j, ks, kids, gl, gr, rfl, hs, hd, few, m, kq⟩ := h
    refine ⟨_, PSs.nox (pss_cons (ps_asg (pe_dget (hu_of hr) (pe_fld (pv 0) rfl) (pv 1) (fun _ _ => rfl)) (pg_tup rfl (pgs_cons (pg_name (i := 3) sc_mend.nd rfl (Or.inl rfl)) (pgs_cons (pg_name (i := 4) sc_mend.nd rfl (Or.inl rfl)) (pgs_cons (pg_name (i := 5) sc_mend.nd rfl (Or.inl rfl)) pgs_nil)))))
 (pss_cons (ps_set (i := 6) sc_mend.nd rfl (Or.inl rfl) (pe_call G_mate_in (hr.mono (by first | decide | omega)) rfl T.g_mate_in T.F_mate_in.kp b_mate_in .nil pass0 (pa_cons (pv 5) (pa_cons (pv 2) pa_nil))))
 (pss_cons (ps_set (i := 7) sc_mend.nd rfl (Or.inl rfl) (pe_callB (call_min2 rfl) rfl T.n_min (by decide +kernel) (pa_cons (RU.pe_bmF PySem.F.slot_tuple_index PySem.F.type_tuple_index RU.mt_tindexI (pv 5) (pa_cons (pv 6) pa_nil)) (pa_cons (RU.pe_bmF PySem.F.slot_tuple_index PySem.F.type_tuple_index RU.mt_tindexI (pv 5) (pa_cons (pv 2) pa_nil)) pa_nil))))
 (pss_cons (ps_par (i := 8) (j := 9) rfl sc_mend.nd rfl rfl (by decide) rfl rfl (pa_cons (pe_ix ix_tup (pv 5) (pv 7) (fun _ _ => rfl)) (pa_cons (pe_ix ix_tup (pv 5) (pe_op op_add (pv 7) pe_int) (fun _ _ => rfl)) pa_nil)) rfl)
 (pss_cons (ps_set (i := 10) sc_mend.nd rfl (Or.inl rfl) (pe_call G_joined (hr.mono (by first | decide | omega)) rfl T.g_joined T.F_joined.kp b_joined .nil pass0 (pa_cons (pe_dget (hu_of hr) (pe_fld (pv 0) rfl) (pv 8) (fun _ _ => rfl)) (pa_cons (pe_dget (hu_of hr) (pe_fld (pv 0) rfl) (pv 9) (fun _ _ => rfl)) (pa_cons (pe_ix ix_tup (pv 4) (pv 7) (fun _ _ => rfl)) pa_nil)))))
 (pss_one (ps_if (pt_cmpR op_gt (pe_meth (pv 0) T.cl_Book T.m_Book_many_parts G_Book_many_parts (hr.mono (by first | decide | omega)) b_Book_many_parts .nil pass0 (pa_cons (pv 6) pa_nil)) (pe_fld (pv 0) rfl) (nomark _))
 (pss_cons (ps_set (i := 11) sc_mend.nd rfl (Or.inl rfl) (pe_op op_add (pe_meth (pv 0) T.cl_Book T.m_Book_many_parts G_Book_many_parts (hr.mono (by first | decide | omega)) b_Book_many_parts .nil pass0 (pa_cons (pv 8) pa_nil)) (pe_ifExp (pt_cmpR op_eq (pv 6) (pv 8) (nomark _)) (pe_un un_neg pe_int) pe_int)))
 (pss_cons (ps_asg (pe_call G_parted (hr.mono (by first | decide | omega)) rfl T.g_parted T.F_parted.kp b_parted .nil pass0 (pa_cons (pv 10) (pa_cons (pv 11) (pa_cons (pv 9) pa_nil)))) (pg_tup rfl (pgs_cons (pg_sub (pe_fld (pv 0) rfl) (pv 8) (set_dict (hu_of hr))) (pgs_cons (pg_name (i := 12) sc_mend.nd rfl (Or.inl rfl)) (pgs_cons (pg_sub (pe_fld (pv 0) rfl) (pv 9) (set_dict (hu_of hr))) pgs_nil)))))
 (pss_one (ps_dput (hu_of hr) (pe_fld (pv 0) rfl) (pv 1) (pe_tup (pa_cons pe_str (pa_cons (pe_tup (StX.pa_star (pe_slice sl_tup (pv 4) po_none (po_some (pv 7))) (pa_cons (pv 12) (StX.pa_star (pe_slice sl_tup (pv 4) (po_some (pe_op op_add (pv 7) pe_int)) po_none) pa_nil)))) (pa_cons (pv 5) pa_nil)))) rfl))))
 (pss_cons (ps_dput (hu_of hr) (pe_fld (pv 0) rfl) (pv 8) (pv 10) rfl)
 (pss_cons (ps_ddel (pe_fld (pv 0) rfl) (pv 9))
 (pss_one (ps_dput (hu_of hr) (pe_fld (pv 0) rfl) (pv 1) (pe_tup (pa_cons pe_str (pa_cons (pe_op RU.op_catP (pe_slice sl_tup (pv 4) po_none (po_some (pv 7))) (pe_slice sl_tup (pv 4) (po_some (pe_op op_add (pv 7) pe_int)) po_none)) (pa_cons (pe_op RU.op_catG (pe_slice RU.sl_tupF (pv 5) po_none (po_some (pe_op op_add (pv 7) pe_int))) (pe_slice RU.sl_tupF (pv 5) (po_some (pe_op op_add (pv 7) pe_int)) po_none)) pa_nil)))) rfl))))))))))), ?_⟩
    obtain ⟨v, hv, t, q1, q2, rfl, ht, hq1, hq2⟩ := hd.get m.he
    have jl := (List.getElem?_eq_some_iff.mp m.hj).1
    have two := m.two
    have lk := m.lk
    have kfew := m.few
    have gat : ∀ i, i < kids.length → (kids.map V.int)[i]? = some (.int (kids.getD i 0)) := fun i hi => by
      rw [List.getElem?_map, List.getD_eq_getElem?_getD, List.getElem?_eq_getElem hi]
      rfl
    refine ⟨_, rfl, s, _, dx, _, _, rfl, hs, T.cl_Book, T.na_Book_pages, bf_pages, _, rfl, d, _, rfl, hv, t, _, rfl, SqT.of ht, rfl, _, _, rfl, _, _, rfl, _, _, rfl, rfl, ?_⟩
    refine ⟨_, rfl, _, rfl, q2, kids, j, n, rfl, hq2, m.nd, m.hj, two, ?_⟩
    obtain ⟨mi, hmi⟩ : ∃ mi, mi = (if j = 0 then 1 else j - 1) := ⟨_, rfl⟩
    have nwa : ∀ {xs : List V} {c : Nat}, c < xs.length → ¬ (HT.sIx xs.length 0 none = 0 ∧ HT.sIx xs.length xs.length (some (c : Int)) = xs.length) := fun hc z => by
      have z2 := z.2
      rw [HT.sIx_nat] at z2
      omega
    have nwb : ∀ {xs : List V} {c : Nat}, 1 ≤ c → 1 ≤ xs.length → ¬ (HT.sIx xs.length 0 (some (c : Int)) = 0 ∧ HT.sIx xs.length xs.length none = xs.length) := fun hc hx z => by
      have z2 := z.1
      rw [HT.sIx_nat] at z2
      omega
    rw [← hmi]
    have mil : mi < kids.length := by
      rw [hmi]
      split <;> omega
    have hmate : kids[mi]? = some (kids.getD mi 0) := by
      rw [List.getD_eq_getElem?_getD, List.getElem?_eq_getElem mil]
      rfl
    obtain ⟨o2, hq2f, ho2⟩ := id hq2
    refine ⟨_, rfl, ⟨q2, o2, _, rfl, hq2f, ho2⟩, _, rfl, q2, kids, _, rfl, rfl, hq2.sq, List.mem_of_getElem? hmate, _, rfl, ⟨q2, o2, _, rfl, hq2f, ho2⟩, _, rfl, q2, kids, n, rfl, rfl, hq2.sq, List.mem_of_getElem? m.hj, _, _, rfl, ?_⟩
    rw [idx_at m.nd hmate, idx_at m.nd m.hj]
    have eat : (if ((j : Nat) : Int) < ((mi : Nat) : Int) then ((j : Nat) : Int) else ((mi : Nat) : Int)) = ((j - 1 : Nat) : Int) := by
      by_cases c : j = 0
      · rw [if_pos c] at hmi
        rw [if_pos (by omega)]
        omega
      · rw [if_neg c] at hmi
        rw [if_neg (by omega)]
        omega
    rw [eat]
    have hkat : (ks.map V.int)[j - 1]? = some (.int (ks.getD (j - 1) 0)) := by
      rw [List.getElem?_map, List.getD_eq_getElem?_getD, List.getElem?_eq_getElem (by omega)]
      rfl
    refine ⟨_, rfl, _, rfl, q2, _, _, _, rfl, rfl, hq2.sq, at_of (gat (j - 1) (by omega)) rfl, _, rfl, _, rfl, _, _, rfl, rfl, q2, _, _, _, rfl, rfl, hq2.sq, at_of (j := j - 1 + 1) (gat (j - 1 + 1) (by omega)) (by omega), _, _, rfl, ?_⟩
    obtain ⟨vl, hvl, pgl⟩ := hd.get m.pl
    obtain ⟨vr, hvr, pgr⟩ := hd.get m.pr
    refine ⟨_, rfl, s, _, dx, _, _, rfl, hs, T.cl_Book, T.na_Book_pages, bf_pages, _, rfl, d, _, rfl, hvl, ?_⟩
    refine ⟨_, rfl, s, _, dx, _, _, rfl, hs, T.cl_Book, T.na_Book_pages, bf_pages, _, rfl, d, _, rfl, hvr, ?_⟩
    refine ⟨_, rfl, _, rfl, q1, _, _, _, rfl, rfl, SqT.of hq1, at_of hkat rfl, vl, vr, gl, gr, _, rfl, pgl, pgr, m.fit, fun H1 wv s1 hw => ?_⟩
    have hs1 := s1 _ _ hs
    have hd1 := hd.same s1
    have hmp : lkp D (kids.getD mi 0) = some (if j = 0 then gr else gl) := by
      by_cases c : j = 0
      · rw [if_pos c] at hmi ⊢
        rw [hmi, ← m.pr, c]
      · rw [if_neg c] at hmi ⊢
        rw [hmi, m.pl]
    refine ⟨_, rfl, s, dx, _, rfl, hs1, bfs_no (by decide +kernel) (by decide +kernel) (by decide +kernel) (by decide +kernel), _, rfl, s, dx, d, room, root, _, _, D, _, rfl, hs1, hd1, hmp, ?_⟩
    refine ⟨_, rfl, s, _, dx, _, _, rfl, hs1, T.cl_Book, T.na_Book_half, bf_half, _, _, rfl, rfl, _, rfl, ?_⟩
    have hq11 := s1 _ _ hq1
    have hq21 := hq2.same s1
    by_cases c : half < Pg.parts (if j = 0 then gr else gl)
    · rw [decide_eq_true (by omega : (half : Int) < ((Pg.parts (if j = 0 then gr else gl) : Nat) : Int))]
      obtain ⟨cok, pw, pl1⟩ := m.cut c
      have em := m.eq
      rw [if_pos c] at em
      refine iteT ⟨_, rfl, s, dx, _, rfl, hs1, bfs_no (by decide +kernel) (by decide +kernel) (by decide +kernel) (by decide +kernel), _, rfl, s, dx, d, room, root, _, _, D, _, rfl, hs1, hd1, m.pl, ?_⟩
      obtain ⟨cc, hcc⟩ : ∃ cc, cc = (if j = 0 then Pg.parts gl + 1 else Pg.parts gl - 1) := ⟨_, rfl⟩
      rw [← hcc] at cok em
      refine ⟨_, rfl, _, rfl, rfl, _, rfl, ?_⟩
      by_cases cj : j = 0
      all_goals
        first
        | (rw [decide_eq_false (fun z => m.ne (by injection z with z; rw [if_pos cj] at hmi; rw [← z, hmi, cj]))]
           refine iteF ⟨_, _, rfl, rfl, ?_⟩
           have ecc : ((Pg.parts gl : Nat) : Int) + 1 = ((cc : Nat) : Int) := by rw [if_pos cj] at hcc; omega)
        | (rw [decide_eq_true (by rw [if_neg cj] at hmi; rw [hmi])]
           refine iteT ⟨1, rfl, _, _, rfl, rfl, ?_⟩
           have ecc : ((Pg.parts gl : Nat) : Int) + -1 = ((cc : Nat) : Int) := by rw [if_neg cj] at hcc; omega)
        refine ⟨_, rfl, _, rfl, _, rfl, wv, _, cc, _, by rw [← ecc]; rfl, hw, pw, cok, fun H2 a x y s2 ha hx hy => ?_⟩
        have hs2 := s2 _ _ hs1
        obtain ⟨es2, hd2, hde2⟩ := hd1.same s2
        have el2 := hde2.length
        have sz2 : es2.length < sizeLine := Nat.lt_of_le_of_lt (by omega : es2.length ≤ 100000) (by decide)
        obtain ⟨k3, b3, hd3⟩ := dset hd2 hde2 m.pl hx
        refine ⟨a, _, rfl, SqT.of ha, rfl, _, _, rfl, _, rfl, s, _, dx, _, _, rfl, hs2, T.cl_Book, T.na_Book_pages, bf_pages, _, rfl, d, _, rfl, DPut.k (k := .inl (kids.getD (j - 1) 0)) hd2 sz2, ?_⟩
        have ns_d : s ≠ d := fun z => by rw [z, hd2] at hs2; cases hs2
        have hs3 := b3 _ _ ns_d hs2
        have hy3 := hy.keep k3
        generalize upd H2 d (.dK (putK es2 (.inl (kids.getD (j - 1) 0)) x)) = H3 at k3 b3 hd3 hs3 hy3
        obtain ⟨es3, hd3, hde3⟩ := hd3
        have el3 := hde3.length
        have pr3 : lkp (setp D (kids.getD (j - 1) 0) (cutPg cc (kids.getD (j - 1 + 1) 0) (joinPg (ks.getD (j - 1) 0) gl gr)).1) (kids.getD (j - 1 + 1) 0) = some gr := by rw [lkp_setp_ne m.ne.symm, m.pr]
        have he3 : lkp (setp D (kids.getD (j - 1) 0) (cutPg cc (kids.getD (j - 1 + 1) 0) (joinPg (ks.getD (j - 1) 0) gl gr)).1) e = some (.node ks kids) := by rw [lkp_setp_ne m.nel.symm, m.he]
        rw [setp_len] at el3
        have sz3 : es3.length < sizeLine := Nat.lt_of_le_of_lt (by omega : es3.length ≤ 100000) (by decide)
        obtain ⟨k4, b4, hd4⟩ := dset hd3 hde3 pr3 hy3
        refine ⟨_, _, rfl, _, _, rfl, _, rfl, s, _, dx, _, _, rfl, hs3, T.cl_Book, T.na_Book_pages, bf_pages, _, rfl, d, _, rfl, DPut.k (k := .inl (kids.getD (j - 1 + 1) 0)) hd3 sz3, ?_⟩
        have hs4 := b4 _ _ ns_d hs3
        generalize upd H3 d (.dK (putK es3 (.inl (kids.getD (j - 1 + 1) 0)) y)) = H4 at k4 b4 hd4 hs4
        have k14 := ((Keep.of s2).trans k3).trans k4
        have he4 : lkp (setp (setp D (kids.getD (j - 1) 0) (cutPg cc (kids.getD (j - 1 + 1) 0) (joinPg (ks.getD (j - 1) 0) gl gr)).1) (kids.getD (j - 1 + 1) 0) (cutPg cc (kids.getD (j - 1 + 1) 0) (joinPg (ks.getD (j - 1) 0) gl gr)).2.2) e = some (.node ks kids) := by rw [lkp_setp_ne m.ner.symm, he3]
        obtain ⟨es4, hd4, hde4⟩ := hd4
        refine ⟨rfl, ?_⟩
        have hq14 := k14 _ _ hq11
        have hq24 := hq21.keep k14
        refine ⟨_, rfl, _, rfl, ((j - 1 : Nat) : Int), rfl, q1, _, rfl, SqT.of hq14, nwa (by rw [List.length_map]; omega), fun p1 hp1 => ?_⟩
        rw [cut_to', ← List.map_take]
        have s5 := same_new (o := .tup ((ks.take (j - 1)).map V.int)) hp1
        have h15 : upd H4 p1 (.tup ((ks.take (j - 1)).map V.int)) p1 = some (.tup ((ks.take (j - 1)).map V.int)) := upd_same
        generalize upd H4 p1 (.tup ((ks.take (j - 1)).map V.int)) = H5 at s5 h15
        refine ⟨p1, _, rfl, .inl (SqT.of h15), _, rfl, _, rfl, _, rfl, _, _, rfl, rfl, ((j - 1 + 1 : Nat) : Int), (by show V.int (((j - 1 : Nat) : Int) + 1) = _; rw [show ((j - 1 : Nat) : Int) + 1 = ((j - 1 + 1 : Nat) : Int) by omega]), q1, _, rfl, SqT.of (s5 _ _ hq14), nwb (by omega) (by rw [List.length_map]; omega), fun p2 hp2 => ?_⟩
        rw [cut_from', ← List.map_drop]
        have s6 := same_new (o := .tup ((ks.drop (j - 1 + 1)).map V.int)) hp2
        have h26 : upd H5 p2 (.tup ((ks.drop (j - 1 + 1)).map V.int)) p2 = some (.tup ((ks.drop (j - 1 + 1)).map V.int)) := upd_same
        generalize upd H5 p2 (.tup ((ks.drop (j - 1 + 1)).map V.int)) = H6 at s6 h26
        obtain ⟨k', hk'⟩ : ∃ k', (cutPg cc (kids.getD (j - 1 + 1) 0) (joinPg (ks.getD (j - 1) 0) gl gr)).2.1 = k' := ⟨_, rfl⟩
        rw [hk'] at em ⊢
        have hks : ks[j - 1]? = some (ks.getD (j - 1) 0) := by
          rw [List.getD_eq_getElem?_getD, List.getElem?_eq_getElem (by omega)]
          rfl
        have eK : (ks.take (j - 1)).map V.int ++ V.int k' :: ((ks.drop (j - 1 + 1)).map V.int ++ []) = (ks.set (j - 1) k').map V.int := by
          rw [List.append_nil, (set_app k' hks).1, List.map_append, List.map_cons]
        refine ⟨p2, _, rfl, .inl (SqT.of h26), ?_, fun p3 hp3 => ?_⟩
        · rw [eK, List.length_map, List.length_set]
          exact Nat.le_trans (by omega : _ ≤ 2000) (by decide)
        rw [eK]
        have s7 := same_new (o := .tup ((ks.set (j - 1) k').map V.int)) hp3
        have h37 : upd H6 p3 (.tup ((ks.set (j - 1) k').map V.int)) p3 = some (.tup ((ks.set (j - 1) k').map V.int)) := upd_same
        generalize upd H6 p3 (.tup ((ks.set (j - 1) k').map V.int)) = H7 at s7 h37
        refine ⟨_, rfl, by show 3 ≤ sizeLine; decide, fun r hr => ?_⟩
        have s8 := same_new (o := .tup [.str "node", .ref p3, .ref q2]) hr
        have hr8 : upd H7 r (.tup [.str "node", .ref p3, .ref q2]) r = some (.tup [.str "node", .ref p3, .ref q2]) := upd_same
        generalize upd H7 r (.tup [.str "node", .ref p3, .ref q2]) = H8 at s8 hr8
        have s48 := ((s5.trans s6).trans s7).trans s8
        have hd8 := s48 _ _ hd4
        have hde8 := paired_imp (fun _ _ (r : EnAt H4 _ _) => (⟨r.1, r.2.keep (Keep.of s48)⟩ : EnAt H8 _ _)) hde4
        have el8 := hde8.length
        rw [setp_len, setp_len] at el8
        obtain ⟨k9, b9, hd9⟩ := dset (v := .ref r) (g := .node (ks.set (j - 1) k') kids) hd8 hde8 he4 ⟨r, p3, q2, rfl, hr8, s8 _ _ h37, hq24.same s48⟩
        refine ⟨_, rfl, s, _, dx, _, _, rfl, s48 _ _ hs4, T.cl_Book, T.na_Book_pages, bf_pages, _, rfl, d, _, rfl, DPut.k (k := .inl e) hd8 (Nat.lt_of_le_of_lt (by omega : _ ≤ 100000) (by decide)), ?_⟩
        refine kq _ (((((But.of s1).trans (But.of s2)).trans b3).trans b4).trans ((But.of s48).trans b9)) ?_
        rw [em]
        exact hd9
    · rw [decide_eq_false (by omega : ¬ (half : Int) < ((Pg.parts (if j = 0 then gr else gl) : Nat) : Int))]
      have em := m.eq
      rw [if_neg c] at em
      refine iteF ?_
      obtain ⟨es1, hd1, hde1⟩ := hd1
      have el1 := hde1.length
      have ns_d : s ≠ d := fun z => by rw [z, hd1] at hs1; cases hs1
      obtain ⟨k2, b2, hd2⟩ := dset hd1 hde1 m.pl hw
      refine ⟨_, rfl, _, rfl, s, _, dx, _, _, rfl, hs1, T.cl_Book, T.na_Book_pages, bf_pages, _, rfl, d, _, rfl, DPut.k (k := .inl (kids.getD (j - 1) 0)) hd1 (Nat.lt_of_le_of_lt (by omega : _ ≤ 100000) (by decide)), ?_⟩
      have hs2 := b2 _ _ ns_d hs1
      generalize upd H1 d (.dK (putK es1 (.inl (kids.getD (j - 1) 0)) wv)) = H2 at k2 b2 hd2 hs2
      obtain ⟨es2, hd2, hde2⟩ := hd2
      have pr2 : lkp (setp D (kids.getD (j - 1) 0) (joinPg (ks.getD (j - 1) 0) gl gr)) (kids.getD (j - 1 + 1) 0) = some gr := by rw [lkp_setp_ne m.ne.symm, m.pr]
      have he2 : lkp (dropK (setp D (kids.getD (j - 1) 0) (joinPg (ks.getD (j - 1) 0) gl gr)) (kids.getD (j - 1 + 1) 0)) e = some (.node ks kids) := by rw [lkp_dropK, if_neg m.ner.symm, lkp_setp_ne m.nel.symm, m.he]
      obtain ⟨k3, b3, hd3⟩ := ddel (k := kids.getD (j - 1 + 1) 0) hd2 hde2
      refine ⟨_, rfl, s, _, dx, _, _, rfl, hs2, T.cl_Book, T.na_Book_pages, bf_pages, _, rfl, d, _, .inl (kids.getD (j - 1 + 1) 0), rfl, hd2, rfl, dval hde2 pr2, ?_⟩
      have hs3 := b3 _ _ ns_d hs2
      generalize upd H2 d (.dK (L2.dropK es2 (.inl (kids.getD (j - 1 + 1) 0)))) = H3 at k3 b3 hd3 hs3
      obtain ⟨es3, hd3, hde3⟩ := hd3
      have k13 := k2.trans k3
      have hq13 := k13 _ _ hq11
      have hq23 := hq21.keep k13
      have e11 : ((j - 1 : Nat) : Int) + 1 = ((j - 1 + 1 : Nat) : Int) := by omega
      have e12 : ((j - 1 : Nat) : Int) + 2 = ((j - 1 + 2 : Nat) : Int) := by omega
      refine ⟨_, rfl, _, rfl, ((j - 1 : Nat) : Int), rfl, q1, _, rfl, SqT.of hq13, nwa (by rw [List.length_map]; omega), fun p1 hp1 => ?_⟩
      rw [cut_to', ← List.map_take]
      have s5 := same_new (o := .tup ((ks.take (j - 1)).map V.int)) hp1
      have h15 : upd H3 p1 (.tup ((ks.take (j - 1)).map V.int)) p1 = some (.tup ((ks.take (j - 1)).map V.int)) := upd_same
      generalize upd H3 p1 (.tup ((ks.take (j - 1)).map V.int)) = H5 at s5 h15
      refine ⟨_, rfl, _, rfl, _, _, rfl, rfl, ((j - 1 + 1 : Nat) : Int), (by show V.int (((j - 1 : Nat) : Int) + 1) = _; rw [e11]), q1, _, rfl, SqT.of (s5 _ _ hq13), nwb (by omega) (by rw [List.length_map]; omega), fun p2 hp2 => ?_⟩
      rw [cut_from', ← List.map_drop]
      have s6 := same_new (o := .tup ((ks.drop (j - 1 + 1)).map V.int)) hp2
      have h26 : upd H5 p2 (.tup ((ks.drop (j - 1 + 1)).map V.int)) p2 = some (.tup ((ks.drop (j - 1 + 1)).map V.int)) := upd_same
      generalize upd H5 p2 (.tup ((ks.drop (j - 1 + 1)).map V.int)) = H6 at s6 h26
      refine ⟨p1, p2, _, _, rfl, rfl, s6 _ _ h15, h26, ?_, fun p3 H7 s7 h37 => ?_⟩
      · rw [List.length_map, List.length_map, List.length_take, List.length_drop]
        exact Nat.le_trans (by omega : _ ≤ 2000) (by decide)
      rw [← List.map_append, ← List.eraseIdx_eq_take_drop_succ] at h37
      have s37 := (s5.trans s6).trans s7
      have hq27 := hq23.same s37
      refine ⟨_, rfl, _, rfl, _, _, rfl, rfl, ((j - 1 + 1 : Nat) : Int), (by show V.int (((j - 1 : Nat) : Int) + 1) = _; rw [e11]), q2, _, rfl, hq27.sq, nwa (by rw [List.length_map]; omega), fun p4 o4 hp4 ho4 => ?_⟩
      rw [cut_to', ← List.map_take]
      have s8 := same_new (o := .frz o4 (.tup ((kids.take (j - 1 + 1)).map V.int))) hp4
      have h48 : upd H7 p4 (.frz o4 (.tup ((kids.take (j - 1 + 1)).map V.int))) p4 = some (.frz o4 (.tup ((kids.take (j - 1 + 1)).map V.int))) := upd_same
      generalize upd H7 p4 (.frz o4 (.tup ((kids.take (j - 1 + 1)).map V.int))) = H8 at s8 h48
      refine ⟨_, rfl, _, rfl, _, _, rfl, rfl, ((j - 1 + 2 : Nat) : Int), (by show V.int (((j - 1 : Nat) : Int) + 2) = _; rw [e12]), q2, _, rfl, (hq27.same s8).sq, nwb (by omega) (by rw [List.length_map]; omega), fun p5 o5 hp5 ho5 => ?_⟩
      rw [cut_from', ← List.map_drop]
      have s9 := same_new (o := .frz o5 (.tup ((kids.drop (j - 1 + 2)).map V.int))) hp5
      have h59 : upd H8 p5 (.frz o5 (.tup ((kids.drop (j - 1 + 2)).map V.int))) p5 = some (.frz o5 (.tup ((kids.drop (j - 1 + 2)).map V.int))) := upd_same
      generalize upd H8 p5 (.frz o5 (.tup ((kids.drop (j - 1 + 2)).map V.int))) = H9 at s9 h59
      refine ⟨p4, p5, _, _, o4, rfl, rfl, s9 _ _ h48, ho4, .inl (.inr ⟨o5, h59⟩), ?_, ?_, fun p6 o6 Ha sa h6a ho6 => ?_⟩
      · intro z
        have z2 := congrArg List.length z
        rw [List.length_map, List.length_take, List.length_nil] at z2
        omega
      · rw [List.length_map, List.length_map, List.length_take, List.length_drop]
        exact Nat.le_trans (by omega : _ ≤ 2000) (by decide)
      rw [← List.map_append, show j - 1 + 2 = j - 1 + 1 + 1 by omega, ← List.eraseIdx_eq_take_drop_succ] at h6a
      refine ⟨by show 3 ≤ sizeLine; decide, fun r hr => ?_⟩
      have sb := same_new (o := .tup [.str "node", .ref p3, .ref p6]) hr
      have hrb : upd Ha r (.tup [.str "node", .ref p3, .ref p6]) r = some (.tup [.str "node", .ref p3, .ref p6]) := upd_same
      generalize upd Ha r (.tup [.str "node", .ref p3, .ref p6]) = Hb at sb hrb
      have s7b := ((s8.trans s9).trans sa).trans sb
      have s3b := s37.trans s7b
      have hdb := s3b _ _ hd3
      have hdeb := paired_imp (fun _ _ (r : EnAt H3 _ _) => (⟨r.1, r.2.keep (Keep.of s3b)⟩ : EnAt Hb _ _)) hde3
      have elb := hdeb.length
      have eld : (dropK (setp D (kids.getD (j - 1) 0) (joinPg (ks.getD (j - 1) 0) gl gr)) (kids.getD (j - 1 + 1) 0)).length ≤ D.length := Nat.le_trans (List.length_filter_le _ _) (Nat.le_of_eq setp_len)
      obtain ⟨kc, bc, hdc⟩ := dset (v := .ref r) (g := .node (ks.eraseIdx (j - 1)) (kids.eraseIdx (j - 1 + 1))) hdb hdeb he2 ⟨r, p3, p6, rfl, hrb, s7b _ _ h37, o6, sb _ _ h6a, ho6⟩
      refine ⟨_, rfl, s, _, dx, _, _, rfl, s3b _ _ hs3, T.cl_Book, T.na_Book_pages, bf_pages, _, rfl, d, _, rfl, DPut.k (k := .inl e) hdb (Nat.lt_of_le_of_lt (by omega : _ ≤ 100000) (by decide)), ?_⟩
      refine kq _ ((((But.of s1).trans b2).trans b3).trans ((But.of s3b).trans bc)) ?_
      rw [em]
      exact hdc
end
end K29

namespace K29
open PySem PySem.Spec PyProof.Rows L2 RZ HX TR RP
/-- the pages on the way, by their levels -/
inductive Sb (key : Int) {l : Nat} (t : Tr l) : (m : Nat) → Tr m → Prop
  | top : Sb key t l t
  | down {m : Nat} {u : Tr (m + 1)} {x : Tr m} : Sb key t (m + 1) u → u.kids[placeOf u.keys key]? = some x → Sb key t m x
structure SbF (room l : Nat) (key : Int) (t : Tr l) (S : List (Int × Pg)) (m : Nat) (x : Tr m) : Prop where
  le : m ≤ l
  gd : ∃ lo hi tp, Gd room m x lo hi tp ∧ (m < l → tp = false)
  laid : Laid S m x
  sub : (nums m x).Sublist (nums l t)
  way : (wayOf l t key).drop (l - m) = wayOf m x key
  leaf : leafOf l t key = leafOf m x key
theorem sb_facts {room l : Nat} {t : Tr l} {S : List (Int × Pg)} {key : Int} (h : TR.Tree room l t S) : ∀ {m : Nat} {x : Tr m}, Sb key t m x → SbF room l key t S m x := by
  intro m x s
  induction s with
  | top => exact ⟨Nat.le_refl _, ⟨_, _, _, tree_gd h, fun z => absurd z (Nat.lt_irrefl _)⟩, h.laid, List.Sublist.refl _, by rw [Nat.sub_self, List.drop_zero], rfl⟩
  | @down m u x su hx ih =>
    obtain ⟨le, ⟨lo, hi, tp, g, _⟩, laid, sub, way, leaf⟩ := ih
    obtain ⟨x', a, b, gx, KA, _⟩ := del_kid_of h.r3 (fun g => del_s h.r3 h.r8 g) g (key := key)
    have e : x' = x := by
      have z := KA.hj
      rw [hx] at z
      exact (Option.some.inj z).symm
    subst e
    have mx := List.mem_of_getElem? hx
    refine ⟨by omega, ⟨a, b, false, gx, fun _ => rfl⟩, laid.2 _ mx, ?_, ?_, ?_⟩
    · refine List.Sublist.trans ?_ sub
      exact List.Sublist.trans (sub_flat mx) (List.sublist_cons_self _ _)
    · have e2 : l - m = l - (m + 1) + 1 := by omega
      have e3 : wayOf (m + 1) u key = num (m + 1) u :: wayOf m x' key := by
        show num (m + 1) u :: (match u.kids[placeOf u.keys key]? with | some u => wayOf m u key | none => []) = _
        rw [hx]
      rw [e2, ← List.drop_drop, way, e3]
      rfl
    · rw [leaf]
      show (match u.kids[placeOf u.keys key]? with | some u => leafOf m u key | none => none) = _
      rw [hx]
theorem sb_way {room l : Nat} {t : Tr l} {S : List (Int × Pg)} {key : Int} (h : TR.Tree room l t S) {m : Nat} {x : Tr m} (s : Sb key t m x) : (wayOf l t key)[l - m]? = some (num m x) := by
  have f := sb_facts h s
  obtain ⟨r, e⟩ := wayOf_cons (l := m) (t := x) (k := key)
  have z : ((wayOf l t key).drop (l - m))[0]? = some (num m x) := by
    rw [f.way, e]
    rfl
  rw [List.getElem?_drop, Nat.add_zero] at z
  exact z
theorem sb_all {room l : Nat} {t : Tr l} {S : List (Int × Pg)} {key : Int} (h : TR.Tree room l t S) : ∀ i : Nat, i ≤ l → ∃ x : Tr (l - i), Sb key t (l - i) x
  | 0, _ => ⟨t, .top⟩
  | i + 1, hi => by
    obtain ⟨x, s⟩ := sb_all h i (by omega)
    obtain ⟨m, em⟩ : ∃ m, l - i = m + 1 := ⟨l - i - 1, by omega⟩
    have em2 : l - (i + 1) = m := by omega
    rw [em2]
    generalize l - i = q at x s em
    subst em
    obtain ⟨_, ⟨lo, hi', tp, g, _⟩, _⟩ := sb_facts h s
    obtain ⟨y, hy⟩ := kid_at (key := key) g.ok
    exact ⟨y, .down s hy⟩
theorem sb_leaf {room l : Nat} {t : Tr l} {S : List (Int × Pg)} {key : Int} (h : TR.Tree room l t S) : ∃ u : Tr 0, Sb key t 0 u ∧ leafOf l t key = some u := by
  have sa := sb_all (key := key) h l (Nat.le_refl _)
  generalize hq : l - l = q at sa
  have q0 : q = 0 := by omega
  subst q0
  obtain ⟨u, s⟩ := sa
  exact ⟨u, s, (sb_facts h s).leaf⟩
theorem sb_top' {room l : Nat} {t : Tr l} {S : List (Int × Pg)} {key : Int} (h : TR.Tree room l t S) : ∀ {m : Nat} {x : Tr m}, Sb key t m x → ∀ e : m = l, e ▸ x = t := by
  intro m x s
  cases s with
  | top =>
    intro e
    rfl
  | down su hx =>
    intro e
    have := (sb_facts h su).le
    omega
theorem sb_top {room l : Nat} {t : Tr l} {S : List (Int × Pg)} {key : Int} (h : TR.Tree room l t S) {x : Tr l} (s : Sb key t l x) : x = t := sb_top' h s rfl
theorem sb_up {room l : Nat} {t : Tr l} {S : List (Int × Pg)} {key : Int} (h : TR.Tree room l t S) {m : Nat} {x : Tr m} (s : Sb key t m x) (lt : m < l) : ∃ u : Tr (m + 1), Sb key t (m + 1) u ∧ u.kids[placeOf u.keys key]? = some x := by
  cases s with
  | top => omega
  | down su hx => exact ⟨_, su, hx⟩
/-- one step up the way -/
theorem sb_step {room l : Nat} {t : Tr l} {S D1 : List (Int × Pg)} {key : Int} (h : TR.Tree room l t S) {m : Nat} {x : Tr m} {u : Tr (m + 1)} (su : Sb key t (m + 1) u) (hx : u.kids[placeOf u.keys key]? = some x) (d : Del room m key S D1 x (delT ((room + 1) / 2) key m x)) :
    Del room (m + 1) key S (stepD ((room + 1) / 2) D1 m (delT ((room + 1) / 2) key m x) (num (m + 1) u) (num m x)) u (delT ((room + 1) / 2) key (m + 1) u) ∧
    (∃ lo hi tp a b, Gd room (m + 1) u lo hi tp ∧ (m + 1 < l → tp = false) ∧ Gd room m x a b false ∧ KidAt room m key u x (delT ((room + 1) / 2) key m x) lo hi ∧ delT ((room + 1) / 2) key (m + 1) u = upT ((room + 1) / 2) u (placeOf u.keys key) (delT ((room + 1) / 2) key m x)) := by
  have f := sb_facts h su
  obtain ⟨lo, hi, tp, g, ht⟩ := f.gd
  obtain ⟨x', a, b, gx, KA, e1⟩ := del_kid_of h.r3 (fun g => del_s h.r3 h.r8 g) g (key := key)
  have e : x' = x := by
    have z := KA.hj
    rw [hx] at z
    exact (Option.some.inj z).symm
  subst e
  exact ⟨del_step h.r3 h.r8 g gx KA e1 f.laid (h.nodup.sublist f.sub) d, lo, hi, tp, a, b, g, ht, gx, KA, e1⟩
/-- where a page keeps enough parts all above it stay -/
theorem sb_stay {room l : Nat} {t : Tr l} {S D1 : List (Int × Pg)} {key : Int} (h : TR.Tree room l t S) : ∀ (n : Nat) {m : Nat} {x : Tr m}, l - m = n → Sb key t m x → Del room m key S D1 x (delT ((room + 1) / 2) key m x) → (m < l → (room + 1) / 2 ≤ partsT m (delT ((room + 1) / 2) key m x)) →
    Del room l key S D1 t (delT ((room + 1) / 2) key l t) ∧ (m < l → rootD D1 (num l t) = (D1, num l t))
  | 0, m, x, e, s, d, _ => by
    have f := sb_facts h s
    have em : m = l := by have := f.le; omega
    subst em
    rw [sb_top h s] at d
    exact ⟨d, fun z => absurd z (Nat.lt_irrefl _)⟩
  | n + 1, m, x, e, s, d, hp => by
    have lt : m < l := by omega
    obtain ⟨u, su, hx⟩ := sb_up h s lt
    obtain ⟨d2, lo, hi, tp, a, b, g, ht, gx, KA, e1⟩ := sb_step h su hx d
    have hp := hp lt
    unfold stepD at d2
    rw [if_pos hp] at d2
    have setl : (u.kids.set (placeOf u.keys key) (delT ((room + 1) / 2) key m x)).length = u.kids.length := List.length_set
    have e2 : delT ((room + 1) / 2) key (m + 1) u = ndT (num (m + 1) u) u.keys (u.kids.set (placeOf u.keys key) (delT ((room + 1) / 2) key m x)) := by
      rw [e1]
      unfold upT
      rw [if_pos hp]
    have ep : partsT (m + 1) (delT ((room + 1) / 2) key (m + 1) u) = u.kids.length := by
      rw [e2]
      exact setl
    have r := sb_stay h n (by omega) su d2 fun z => by
      rw [ep]
      have w1 := g.wf.1
      rw [ht z] at w1
      have w2 : (room + 1) / 2 ≤ (u.kids.map (shp m)).length := w1
      rw [List.length_map] at w2
      exact w2
    refine ⟨r.1, fun _ => ?_⟩
    by_cases z : m + 1 < l
    · exact r.2 z
    · have el : m + 1 = l := by omega
      subst el
      have eu := sb_top h su
      subst eu
      have lk := d2.laid.1
      rw [e2] at lk
      have two := KA.two
      have lk2 : lkp D1 (num (m + 1) u) = some (.node u.keys ((u.kids.set (placeOf u.keys key) (delT ((room + 1) / 2) key m x)).map (num m))) := lk
      unfold rootD
      rw [lk2]
      generalize hk : u.kids.set (placeOf u.keys key) (delT ((room + 1) / 2) key m x) = kids at setl
      match kids, setl with
      | [], z => rfl
      | [c], z =>
        simp only [List.length_cons, List.length_nil] at z
        omega
      | _ :: _ :: _, _ => rfl
end K29

namespace K29
open PySem PySem.Spec PyProof.Rows L2 RZ HX TR RP
theorem kids_facts {room : Nat} {key : Int} {l : Nat} {t : Tr (l + 1)} {x y : Tr l} {D0 D1 : List (Int × Pg)} {j : Nat} (hj : t.kids[j]? = some x) (en : num l y = num l x) (hL : Laid D0 (l + 1) t) (nd : (nums (l + 1) t).Nodup) (d : Del room l key D0 D1 x y) :
    lkp D1 (num (l + 1) t) = some (.node t.keys (t.kids.map (num l))) ∧ (∀ z ∈ t.kids.set j y, Laid D1 l z) ∧ (num (l + 1) t :: (t.kids.set j y).flatMap (nums l)).Nodup ∧ (t.kids.set j y).map (num l) = t.kids.map (num l) := by
  obtain ⟨es, ek⟩ := set_app y hj
  obtain ⟨hk1, hk2⟩ := hL
  obtain ⟨gone, p1, q1⟩ := d.keys
  generalize hkk : t.kids.set j y = kids at *
  generalize hA : t.kids.take j = A at es ek
  generalize hB : t.kids.drop (j + 1) = B at es ek
  have et : nums (l + 1) t = num (l + 1) t :: (A.flatMap (nums l) ++ (nums l x ++ B.flatMap (nums l))) := by
    show num (l + 1) t :: t.kids.flatMap (nums l) = _
    rw [ek, List.flatMap_append, List.flatMap_cons]
  have ek1 : kids.flatMap (nums l) = A.flatMap (nums l) ++ (nums l y ++ B.flatMap (nums l)) := by rw [es, List.flatMap_append, List.flatMap_cons]
  have pk : (nums (l + 1) t).Perm ((num (l + 1) t :: kids.flatMap (nums l)) ++ gone) := by
    rw [et, ek1, List.cons_append, List.append_assoc]
    refine List.Perm.cons _ (List.Perm.append_left _ ?_)
    refine (List.Perm.append_right _ p1).trans ?_
    rw [List.append_assoc, List.append_assoc]
    exact List.Perm.append_left _ List.perm_append_comm
  have ndk : (num (l + 1) t :: kids.flatMap (nums l)).Nodup := (pk.nodup_iff.mp nd).sublist (List.sublist_append_left _ _)
  rw [et] at nd
  obtain ⟨nd1, nd2⟩ := List.nodup_cons.mp nd
  obtain ⟨_, ndr, ndA⟩ := List.pairwise_append.mp (List.nodup_iff_pairwise_ne.mp nd2)
  obtain ⟨_, _, ndB⟩ := List.pairwise_append.mp ndr
  have frA : ∀ m ∈ A.flatMap (nums l), lkp D1 m = lkp D0 m := fun m hm => d.frame m fun z => ndA m hm m (List.mem_append_left _ z) rfl
  have frB : ∀ m ∈ B.flatMap (nums l), lkp D1 m = lkp D0 m := fun m hm => d.frame m fun z => ndB m z m hm rfl
  have frt : lkp D1 (num (l + 1) t) = lkp D0 (num (l + 1) t) := d.frame _ fun z => nd1 (List.mem_append_right _ (List.mem_append_left _ z))
  have emap : kids.map (num l) = t.kids.map (num l) := by rw [es, ek, List.map_append, List.map_append, List.map_cons, List.map_cons, en]
  refine ⟨by rw [frt]; exact hk1, fun z hz => ?_, ndk, emap⟩
  rw [es] at hz
  rcases List.mem_append.mp hz with h | h
  · exact Laid.on (fun m hm => frA m (List.mem_flatMap.mpr ⟨z, h, hm⟩)) (hk2 z (by rw [ek]; exact List.mem_append_left _ h))
  rcases List.mem_cons.mp h with rfl | h
  · exact d.laid
  · exact Laid.on (fun m hm => frB m (List.mem_flatMap.mpr ⟨z, h, hm⟩)) (hk2 z (by rw [ek]; exact List.mem_append_right _ (List.mem_cons_of_mem _ h)))
theorem pair_of : ∀ {l : Nat} {a b : Tr l} {na nb : Int}, KeyOk l a → KeyOk l b → 1 ≤ partsT l a → partsT l a + partsT l b ≤ 1000 → Pair2 (pgT l na a) (pgT l nb b)
  | 0, a, b, _, _, _, _, h1, h2 => ⟨fun e => by
      have z : 1 ≤ a.ps.length := h1
      rw [e] at z
      simp at z, h2⟩
  | l + 1, a, b, _, _, oa, ob, h1, h2 => by
    have h1' : 1 ≤ a.kids.length := h1
    have h2' : a.kids.length + b.kids.length ≤ 1000 := h2
    have z1 := oa.2.2.1
    have z2 := ob.2.2.1
    refine ⟨fun e => ?_, by rw [List.length_map, List.length_map]; exact h2', by omega⟩
    rw [List.map_eq_nil_iff.mp e] at h1'
    simp at h1'
theorem cutok_of : ∀ {l : Nat} {a b : Tr l} {k na nb : Int} {c : Nat}, KeyOk l a → KeyOk l b → 2 ≤ c → c < partsT l a + partsT l b → partsT l a + partsT l b ≤ 1000 → CutOk c (joinPg k (pgT l na a) (pgT l nb b)) ∧ PgW (joinPg k (pgT l na a) (pgT l nb b))
  | 0, a, b, k, _, _, c, _, _, c1, c2, c3 => by
    have c2' : c < a.ps.length + b.ps.length := c2
    have c3' : a.ps.length + b.ps.length ≤ 1000 := c3
    refine ⟨⟨by omega, ?_⟩, ?_⟩
    · rw [List.length_append]
      exact c2'
    · show (a.ps ++ b.ps).length ≤ 1000
      rw [List.length_append]
      exact c3'
  | l + 1, a, b, k, _, _, c, oa, ob, c1, c2, c3 => by
    have c2' : c < a.kids.length + b.kids.length := c2
    have c3' : a.kids.length + b.kids.length ≤ 1000 := c3
    have z1 := oa.2.2.1
    have z2 := ob.2.2.1
    refine ⟨⟨c1, ?_⟩, ?_, ?_⟩
    · rw [List.length_append, List.length_map, List.length_map]
      exact c2'
    · show (a.keys ++ k :: b.keys).length + 1 = (a.kids.map (num l) ++ b.kids.map (num l)).length
      rw [List.length_append, List.length_append, List.length_cons, List.length_map, List.length_map]
      omega
    · show (a.kids.map (num l) ++ b.kids.map (num l)).length ≤ 1000
      rw [List.length_append, List.length_map, List.length_map]
      exact c3'
theorem mendP_of {room l : Nat} {t : Tr l} {S D1 : List (Int × Pg)} {key : Int} (h : TR.Tree room l t S) {m : Nat} {x : Tr m} {u : Tr (m + 1)} (su : Sb key t (m + 1) u) (hx : u.kids[placeOf u.keys key]? = some x) (d : Del room m key S D1 x (delT ((room + 1) / 2) key m x))
    (low : ¬ (room + 1) / 2 ≤ partsT m (delT ((room + 1) / 2) key m x)) : ∃ gl gr, MendP ((room + 1) / 2) D1 (num (m + 1) u) (num m x) (placeOf u.keys key) u.keys (u.kids.map (num m)) gl gr := by
  obtain ⟨_, lo, hi, tp, a0, b0, g, ht, gx, KA, e1⟩ := sb_step h su hx d
  have f := sb_facts h su
  have r3 := h.r3
  have r8 := h.r8
  have X := del_s r3 r8 (key := key) gx
  have nd := h.nodup.sublist f.sub
  obtain ⟨he, laidK, ndk, emap⟩ := kids_facts hx X.num f.laid nd d
  generalize hy : delT ((room + 1) / 2) key m x = y at *
  have kb := KA.kb
  have kwf := KA.wf
  have kok := KA.ok
  have kpr := KA.pr
  have two := KA.two
  have kle := KA.le
  have okl := g.ok.2.2.1
  generalize ej : placeOf u.keys key = j at *
  have jl := (List.getElem?_eq_some_iff.mp hx).1
  have setl : (u.kids.set j y).length = u.kids.length := List.length_set
  have hyj : (u.kids.set j y)[j]? = some y := List.getElem?_set_self jl
  have lo_ : (room + 1) / 2 ≤ partsT m y + 1 := X.lo_
  have rise : ((u.kids.set j y).flatMap (prs m)).Pairwise fun a b => a.1 < b.1 := by
    rw [kpr]
    exact g.rise.filter _
  obtain ⟨a, b, k, M, mt⟩ := mend_ok (n := num (m + 1) u) r3 r8 kb hyj (by omega) X.kw (by omega) kwf kok rise g.lo0 g.hi1
  generalize hkk : u.kids.set j y = kids at *
  have ha := M.ha
  have hb := M.hb
  have ma := List.mem_of_getElem? ha
  have mb := List.mem_of_getElem? hb
  obtain ⟨ndn, ndf⟩ := List.nodup_cons.mp ndk
  have nd1 : (kids.map (num m)).Nodup := ndf.sublist nums_sub
  obtain ⟨⟨na, pa⟩, _⟩ := laid_kl.mp (laidK a ma)
  obtain ⟨⟨nb, pb⟩, _⟩ := laid_kl.mp (laidK b mb)
  rw [← emap] at he ⊢
  have el : (kids.map (num m)).getD (j - 1) 0 = num m a := by
    rw [List.getD_eq_getElem?_getD, List.getElem?_map, ha]
    rfl
  have er : (kids.map (num m)).getD (j - 1 + 1) 0 = num m b := by
    rw [List.getD_eq_getElem?_getD, List.getElem?_map, hb]
    rfl
  have inn : ∀ z ∈ kids, num m z ∈ kids.flatMap (nums m) := fun z hz => List.mem_flatMap.mpr ⟨z, hz, num_mem⟩
  have half2 : 2 ≤ (room + 1) / 2 := by omega
  have small : partsT m a ≤ room ∧ partsT m b ≤ room ∧ 1 ≤ partsT m a ∧ (j = 0 → partsT m a + 1 = (room + 1) / 2 ∧ (room + 1) / 2 ≤ partsT m b) ∧ (j ≠ 0 → (room + 1) / 2 ≤ partsT m a ∧ 1 ≤ partsT m b) := by
    have hi_ := X.hi_
    by_cases c : j = 0
    · rw [if_pos c] at mt
      have wb := (wf_to (kwf (j - 1 + 1) b hb (by omega))).2.2
      have pa1 : partsT m a = partsT m y := by rw [mt.1]
      refine ⟨by omega, wb, by omega, fun _ => ⟨by omega, mt.2⟩, fun z => absurd c z⟩
    · rw [if_neg c] at mt
      have wa := (wf_to (kwf (j - 1) a ha (by omega))).2.2
      have pb1 : partsT m b = partsT m y := by rw [mt.1]
      refine ⟨wa, by omega, by omega, fun z => absurd z c, fun _ => ⟨mt.2, by omega⟩⟩
  obtain ⟨sa, sb, s1, s2, s3⟩ := small
  refine ⟨pgT m na a, pgT m nb b, he, nd1, ?_, by rw [List.length_map]; omega, by rw [List.length_map]; omega, by rw [List.length_map]; omega, by rw [el]; exact pa, by rw [er]; exact pb, ?_, ?_, ?_, pair_of (kok a ma) (kok b mb) s1 (by omega), fun c => ?_⟩
  · rw [List.getElem?_map, hyj, ← X.num]
    rfl
  · rw [el, er]
    intro e
    have i1 : (kids.map (num m))[j - 1]? = some (num m a) := by rw [List.getElem?_map, ha]; rfl
    have i2 : (kids.map (num m))[j - 1 + 1]? = some (num m a) := by rw [List.getElem?_map, hb, e]; rfl
    have := nodup_at nd1 i1 i2
    omega
  · rw [el]
    exact fun e => ndn (by rw [← e]; exact inn a ma)
  · rw [er]
    exact fun e => ndn (by rw [← e]; exact inn b mb)
  · have c' : (room + 1) / 2 < partsT m (if j = 0 then b else a) := by
      by_cases z : j = 0
      · rw [if_pos z] at c ⊢
        rw [pg_parts] at c
        exact c
      · rw [if_neg z] at c ⊢
        rw [pg_parts] at c
        exact c
    rw [pg_parts]
    have cc : 2 ≤ (if j = 0 then partsT m a + 1 else partsT m a - 1) ∧ (if j = 0 then partsT m a + 1 else partsT m a - 1) < partsT m a + partsT m b := by
      by_cases z : j = 0
      · rw [if_pos z] at c' ⊢
        have := s2 z
        omega
      · rw [if_neg z] at c' ⊢
        have := s3 z
        omega
    obtain ⟨r1, r2⟩ := cutok_of (k := u.keys.getD (j - 1) 0) (na := na) (nb := nb) (kok a ma) (kok b mb) cc.1 cc.2 (by omega)
    exact ⟨r1, r2, s1⟩
end K29

namespace K29
open PySem PySem.Spec PyProof.Rows L2 RZ HX TR RP
theorem del_len {room l : Nat} {key : Int} {D0 D1 : List (Int × Pg)} {x y : Tr l} (d : Del room l key D0 D1 x y) : D1.length ≤ D0.length := by
  obtain ⟨g, _, q⟩ := d.keys
  have z := congrArg List.length q
  rw [List.length_map] at z
  rw [z]
  refine Nat.le_trans (List.length_filter_le _ _) ?_
  rw [List.length_map]
  exact Nat.le_refl _
theorem way_len {room l : Nat} {t : Tr l} {S : List (Int × Pg)} {key : Int} (h : TR.Tree room l t S) : (wayOf l t key).length = l + 1 := by
  obtain ⟨u, s, _⟩ := sb_leaf (key := key) h
  have z := (sb_facts h s).way
  rw [Nat.sub_zero] at z
  have y := congrArg List.length z
  rw [List.length_drop] at y
  have e : (wayOf 0 u key).length = 1 := rfl
  omega
section
variable {P : Program} {w : World} {K : PySem.W.Frag} {mg : Str → Option Value} {base : Heap}
def sp_fill_up (K : PySem.W.Frag) : Sp := fun vs H Q _ => ∃ (s dx d wy : Addr) (room l : Nat) (t : Tr l) (S D1 : List (Int × Pg)) (key : Int) (u0 : Tr 0), vs = [.ref s, .ref wy] ∧ Bk K H s dx (room : Int) (num l t) (((room + 1) / 2 : Nat) : Int) d ∧ H wy = some (.tup ((wayOf l t key).map V.int)) ∧ DctAt H d D1 ∧ TR.Tree room l t S ∧ l ≤ 100 ∧ Sb key t 0 u0 ∧ Del room 0 key S D1 u0 (delT ((room + 1) / 2) key 0 u0) ∧
  ∀ (H' : Hp) (D' : List (Int × Pg)), (∀ b o, b ≠ d → b ≠ s → H b = some o → H' b = some o) → Del room l key S D' t (delT ((room + 1) / 2) key l t) → Bk K H' s dx (room : Int) (rootD D' (num l t)).2 (((room + 1) / 2 : Nat) : Int) d → DctAt H' d (rootD D' (num l t)).1 → Q .non H'
theorem ok_fill_up (T : TX K mg) : FnOk P w K mg base CX0 4 (He.ga K "fill_up") T.fd_fill_up ["book", "way"] (sp_fill_up K) := by
  have G_mend : FnOk P w K mg base CX0 3 (He.ga K "mend") T.fd_mend ["book", "elder", "number"] (sp_mend K) := ok_mend T
  have b_mend := b_mend T
  have G_Book_many_parts : FnOk P w K mg base CX0 2 (He.ma K (He.ga K "Book") "many_parts") T.fd_Book_many_parts ["self", "number"] (sp_many_parts K) := ok_many_parts T
  have b_Book_many_parts := b_Book_many_parts T
  refine T.F_fill_up.ok sc_fill_up (fun vs H Q E h => ?_) (fun cdv A outer st H vs Q E hr h => ?_)
  · obtain ⟨s, dx, d, wy, room, l, t, S, D1, key, u0, rfl, _⟩ := h
    rfl
  · obtain ⟨s, dx, d, wy, room, l, t, S, D1, key, u0, rfl, hs, hw, hd, hT, hl, su0, d0, kq⟩ := h
    refine ⟨_, PSs.nox (pss_cons (ps_for PassesOwn.never rfl (pi_range3 rfl T.n_range (pa_cons (pe_op op_sub (pe_callB call_len_seq rfl T.n_len PySem.boot_len (pa_cons (pv 1) pa_nil)) pe_int) (pa_cons pe_int (pa_cons (pe_un un_neg pe_int) pa_nil)))) (pg_name (i := 2) sc_fill_up.nd rfl (Or.inl rfl))
 (pss_cons (ps_if (pt_cmpR op_ge (pe_meth (pv 0) T.cl_Book T.m_Book_many_parts G_Book_many_parts (hr.mono (by first | decide | omega)) b_Book_many_parts .nil pass0 (pa_cons (pe_ix ix_tup (pv 1) (pv 2) (fun _ _ => rfl)) pa_nil)) (pe_fld (pv 0) rfl) (nomark _))
 (pss_one ps_retN)
 pss_nil)
 (pss_one (ps_expr (pe_call G_mend (hr.mono (by first | decide | omega)) rfl T.g_mend T.F_mend.kp b_mend .nil pass0 (pa_cons (pv 0) (pa_cons (pe_ix ix_tup (pv 1) (pe_op op_sub (pv 2) pe_int) (fun _ _ => rfl)) (pa_cons (pe_ix ix_tup (pv 1) (pv 2) (fun _ _ => rfl)) pa_nil))))))))
 (pss_cons (ps_set (i := 3) sc_fill_up.nd rfl (Or.inl rfl) (pe_dget (hu_of hr) (pe_fld (pv 0) rfl) (pe_fld (pv 0) rfl) (fun _ _ => rfl)))
 (pss_one (ps_if (PW.pt (pw_and (pt_cmpR op_eq (pe_ix ix_tup (pv 3) pe_int (fun _ _ => rfl)) pe_str (nomark _)) (pw_and1 (pt_cmpR op_eq (pe_callB call_len_seq rfl T.n_len PySem.boot_len (pa_cons (pe_ix ix_tup (pv 3) pe_int (fun _ _ => rfl)) pa_nil)) pe_int (nomark _)))))
 (pss_cons (ps_ddel (pe_fld (pv 0) rfl) (pe_fld (pv 0) rfl))
 (pss_one (ps_fld (pv 0) (pe_ix ix_tup (pe_ix ix_tup (pv 3) pe_int (fun _ _ => rfl)) pe_int (fun _ _ => rfl)) rfl)))
 pss_nil)))), ?_⟩
    have wl := way_len (key := key) hT
    have few := tree_few hT
    have nsd : s ≠ d := fun z => by
      obtain ⟨es, h1, _⟩ := hd
      rw [← z] at h1
      exact nomatch (show some _ = some _ from hs.symm.trans h1)
    have nwd : wy ≠ d := fun z => by
      obtain ⟨es, h1, _⟩ := hd
      rw [← z, hw] at h1
      cases h1
    have ewl : (((wayOf l t key).map V.int).length : Int) - 1 = (l : Int) := by rw [List.length_map, wl]; omega
    have erg : RgC (l : Int) 0 (-1) l := by
      have z := RgC.neg (i := (l : Int)) (j := 0) (by omega) (Int.lt_of_le_of_lt (by omega : _ ≤ (2000 : Int)) (by decide)) (by decide) (by decide)
      rw [show ((l : Int) - 0).toNat = l by omega] at z
      exact z
    refine ⟨_, rfl, wy, _, rfl, .inr (SqT.of hw), _, _, rfl, rfl, 1, rfl, _, _, _, l, by rw [← ewl], erg, ?_⟩
    refine for_rangeC (fun i σ H' => ∃ (v2 : Option V) (x : Tr i) (D' : List (Int × Pg)), σ = [some (.ref s), some (.ref wy), v2, none] ∧ But d H H' ∧ Sb key t i x ∧ Del room i key S D' x (delT ((room + 1) / 2) key i x) ∧ DctAt H' d D') ⟨none, u0, D1, rfl, But.refl d H, su0, d0, hd⟩ ?_ ?_
    · rintro i σ H1 hi ⟨v2, x, D', rfl, b1, sx, dl, hd1⟩
      rw [show (l : Int) + (i : Int) * -1 = ((l - i : Nat) : Int) by omega]
      have f := sb_facts hT sx
      obtain ⟨_, _, _, gx, _⟩ := f.gd
      have X := del_s hT.r3 hT.r8 (key := key) gx
      have hs1 := b1 _ _ nsd hs
      have hw1 := b1 _ _ nwd hw
      have way1 := sb_way hT sx
      have hat1 : ((wayOf l t key).map V.int)[l - i]? = some (.int (num i x)) := by
        rw [List.getElem?_map, way1]
        rfl
      obtain ⟨⟨nx, hlk⟩, _⟩ := laid_kl.mp dl.laid
      rw [X.num] at hlk
      have dle := del_len dl
      refine ⟨_, rfl, s, dx, _, rfl, hs1, bfs_no (by decide +kernel) (by decide +kernel) (by decide +kernel) (by decide +kernel), _, rfl, _, rfl, wy, _, _, _, rfl, rfl, SqT.of hw1, at_of hat1 rfl, s, dx, d, _, _, _, _, D', _, rfl, hs1, hd1, hlk, ?_⟩
      refine ⟨_, rfl, s, _, dx, _, _, rfl, hs1, T.cl_Book, T.na_Book_half, bf_half, _, _, rfl, rfl, _, rfl, ?_⟩
      rw [pg_parts]
      by_cases c : (room + 1) / 2 ≤ partsT i (delT ((room + 1) / 2) key i x)
      · rw [decide_eq_true (by omega)]
        obtain ⟨dd, hroot⟩ := sb_stay hT _ rfl sx dl fun _ => c
        refine iteT ?_
        exact kq H1 D' (fun b o n1 _ e => b1 b o n1 e) dd (by rw [hroot hi]; exact hs1) (by rw [hroot hi]; exact hd1)
      · rw [decide_eq_false (by omega)]
        obtain ⟨u, su, hx⟩ := sb_up hT sx hi
        obtain ⟨dl2, _⟩ := sb_step hT su hx dl
        unfold stepD at dl2
        rw [if_neg c] at dl2
        obtain ⟨gl, gr, mp⟩ := mendP_of hT su hx dl c
        have way2 := sb_way hT su
        have hat2 : ((wayOf l t key).map V.int)[l - (i + 1)]? = some (.int (num (i + 1) u)) := by
          rw [List.getElem?_map, way2]
          rfl
        refine iteF ⟨_, rfl, _, rfl, _, rfl, _, _, rfl, rfl, wy, _, _, _, rfl, rfl, SqT.of hw1, at_of hat2 (by omega), _, rfl, _, rfl, wy, _, _, _, rfl, rfl, SqT.of hw1, at_of hat1 rfl, s, dx, d, _, _, _, _, _, D', _, _, _, gl, gr, rfl, hs1, hd1, by omega, mp, fun H2 b2 hd2 => ?_⟩
        exact ⟨_, u, _, rfl, b1.trans b2, su, dl2, hd2⟩
    · rintro σ H1 ⟨v2, x, D', rfl, b1, sx, dl, hd1⟩
      have ex := sb_top hT sx
      subst ex
      have hs1 := b1 _ _ nsd hs
      have X := del_s hT.r3 hT.r8 (key := key) (tree_gd hT)
      obtain ⟨⟨nx, hlk⟩, _⟩ := laid_kl.mp dl.laid
      rw [X.num] at hlk
      have fin : rootD D' (num l x) = (D', num l x) → Q .non H1 := fun e => kq H1 D' (fun b o n1 _ e => b1 b o n1 e) dl (by rw [e]; exact hs1) (by rw [e]; exact hd1)
      generalize pgT l nx (delT ((room + 1) / 2) key l x) = g at hlk
      obtain ⟨v, hv, hp⟩ := hd1.get hlk
      refine ⟨_, rfl, s, _, dx, _, _, rfl, hs1, T.cl_Book, T.na_Book_pages, bf_pages, _, rfl, s, _, dx, _, _, rfl, hs1, T.cl_Book, T.na_Book_root, bf_root, d, _, rfl, hv, ?_⟩
      cases g with
      | leaf ps my =>
        obtain ⟨t1, q1, rfl, ht1, _⟩ := hp
        refine ⟨_, rfl, t1, _, _, _, rfl, rfl, SqT.of ht1, rfl, rfl, _, rfl, iteF ?_⟩
        refine fin ?_
        unfold rootD
        rw [hlk]
      | node ks kids =>
        obtain ⟨t1, q1, q2, rfl, ht1, hq1, hq2⟩ := hp
        refine ⟨_, rfl, t1, _, _, _, rfl, rfl, SqT.of ht1, rfl, rfl, _, rfl, iteT ?_⟩
        refine ⟨_, rfl, t1, _, _, _, rfl, rfl, SqT.of ht1, rfl, q2, _, rfl, .inr hq2.sq, rfl, _, rfl, ?_⟩
        match kids, hlk, hq2 with
        | [], hlk, _ =>
          refine iteF (fin ?_)
          unfold rootD
          rw [hlk]
        | _ :: _ :: r, hlk, _ =>
          rw [decide_eq_false (fun z => by
            injection z with z
            rw [List.length_map, List.length_cons, List.length_cons] at z
            omega)]
          refine iteF (fin ?_)
          unfold rootD
          rw [hlk]
        | [c], hlk, hq2 =>
          rw [decide_eq_true (show V.int (((([c] : List Int).map V.int).length : Nat) : Int) = V.int 1 from rfl)]
          obtain ⟨es1, hd1, hde1⟩ := hd1
          refine iteT ⟨_, rfl, s, _, dx, _, _, rfl, hs1, T.cl_Book, T.na_Book_pages, bf_pages, _, rfl, s, _, dx, _, _, rfl, hs1, T.cl_Book, T.na_Book_root, bf_root, d, _, .inl (num l x), rfl, hd1, rfl, dval hde1 hlk, ?_⟩
          obtain ⟨k2, b2, hd2⟩ := ddel (k := num l x) hd1 hde1
          have hs2 := b2 _ _ nsd hs1
          have ht2 := k2 _ _ ht1
          have hq22 := hq2.keep k2
          generalize upd H1 d (.dK (L2.dropK es1 (.inl (num l x)))) = H2 at k2 b2 hd2 hs2 ht2 hq22
          refine ⟨_, rfl, t1, _, _, _, rfl, rfl, SqT.of ht2, rfl, q2, _, _, _, rfl, rfl, hq22.sq, rfl, _, rfl, s, _, dx, _, rfl, hs2, T.cl_Book, T.na_Book_root, (by show 4 < 1000; decide), ?_⟩
          have er : rootD D' (num l x) = (dropK D' (num l x), c) := by
            unfold rootD
            rw [hlk]
          have k3 : Keep H2 (upd H2 s (.ins (He.ga K "Book") dx (putF "root" (.int c) (bfs (room : Int) (num l x) (((room + 1) / 2 : Nat) : Int) d)))) := (Keep.refl H2).upd fun ys e => by rw [hs2] at e; cases e; rfl
          obtain ⟨es2, hd2, hde2⟩ := hd2
          refine kq _ D' (fun b o n1 n2 e => by rw [upd_ne n2]; exact b2 _ _ n1 (b1 b o n1 e)) dl ?_ ?_
          · rw [er]
            exact upd_same
          · rw [er]
            exact ⟨es2, by rw [upd_ne nsd.symm]; exact hd2, paired_imp (fun _ _ (r : EnAt H2 _ _) => (⟨r.1, r.2.keep k3⟩ : EnAt _ _ _)) hde2⟩
end
end K29

namespace K29
open PySem PySem.Spec PyProof.Rows L2 RZ HX TR RP
section
variable {P : Program} {w : World} {K : PySem.W.Frag} {mg : Str → Option Value} {base : Heap}
def sp_drop_in (K : PySem.W.Frag) : Sp := fun vs H Q _ => ∃ (s dx d : Addr) (room l : Nat) (t : Tr l) (S : List (Int × Pg)) (key : Int), vs = [.ref s, .int key] ∧ Bk K H s dx (room : Int) (num l t) (((room + 1) / 2 : Nat) : Int) d ∧ DctAt H d S ∧ TR.Tree room l t S ∧ l ≤ 100 ∧
  ∀ (H' : Hp) (D' : List (Int × Pg)), (∀ b o, b ≠ d → b ≠ s → H b = some o → H' b = some o) → Del room l key S D' t (delT ((room + 1) / 2) key l t) → Bk K H' s dx (room : Int) (rootD D' (num l t)).2 (((room + 1) / 2 : Nat) : Int) d → DctAt H' d (rootD D' (num l t)).1 → Q (ovV (lkpP (prs l t) key)) H'
theorem ok_drop_in (T : TX K mg) : FnOk P w K mg base CX0 5 (He.ga K "drop_in") T.fd_drop_in ["book", "key"] (sp_drop_in K) := by
  have G_Book_way : FnOk P w K mg base CX0 2 (He.ma K (He.ga K "Book") "way") T.fd_Book_way ["self", "key"] (sp_Book_way K) := ok_Book_way T
  have b_Book_way := b_Book_way T
  have G_fill_up : FnOk P w K mg base CX0 4 (He.ga K "fill_up") T.fd_fill_up ["book", "way"] (sp_fill_up K) := ok_fill_up T
  have b_fill_up := b_fill_up T
  have G_value_in : FnOk P w K mg base CX0 1 (He.ga K "value_in") T.fd_value_in ["pairs", "key"] sp_value_in := ok_value_in T
  have b_value_in := b_value_in T
  refine T.F_drop_in.ok sc_drop_in (fun vs H Q E h => ?_) (fun cdv A outer st H vs Q E hr h => ?_)
  · obtain ⟨s, dx, d, room, l, t, S, key, rfl, _⟩ := h
    rfl
  · obtain ⟨s, dx, d, room, l, t, S, key, rfl, hs, hd, hT, hl, kq⟩ := h
    refine ⟨_, PSs.nox (pss_cons (ps_set (i := 2) sc_drop_in.nd rfl (Or.inl rfl) (pe_meth (pv 0) T.cl_Book T.m_Book_way G_Book_way (hr.mono (by first | decide | omega)) b_Book_way .nil pass0 (pa_cons (pv 1) pa_nil)))
 (pss_cons (ps_asg (pe_dget (hu_of hr) (pe_fld (pv 0) rfl) (pe_ix ix_tup (pv 2) (pe_un un_neg pe_int) (fun _ _ => rfl)) (fun _ _ => rfl)) (pg_tup rfl (pgs_cons (pg_name (i := 3) sc_drop_in.nd rfl (Or.inl rfl)) (pgs_cons (pg_name (i := 4) sc_drop_in.nd rfl (Or.inl rfl)) (pgs_cons (pg_name (i := 5) sc_drop_in.nd rfl (Or.inl rfl)) pgs_nil)))))
 (pss_cons (ps_set (i := 6) sc_drop_in.nd rfl (Or.inl rfl) (pe_callTy RU.call_tupF rfl T.n_tuple (by decide +kernel) (pa_cons (pe_lc (own := [("pair", 7)]) (g := gName 7) (tt := _) rfl sc_drop_in.nd (pi_tup (pv 4)) (blkOk_by (own := [("pair", 7)]) (N := ["book", "key", "way", "_", "pairs", "right", "left", "pair"]) (sc := defScope s_drop_in) (by decide +kernel)) (fun _ _ _ _ _ => (pg_name (i := 7) sc_drop_in.nd rfl (Or.inl rfl))) (fun _ _ _ _ _ => pts_one (pt_cmpR op_ne (pe_ix (ixt K) (pv 7) pe_int (fun _ _ => rfl)) (pv 1) (nomark _))) (fun _ _ _ _ _ => (pv 7))) pa_nil)))
 (pss_cons (ps_dput (hu_of hr) (pe_fld (pv 0) rfl) (pe_ix ix_tup (pv 2) (pe_un un_neg pe_int) (fun _ _ => rfl)) (pe_tup (pa_cons pe_str (pa_cons (pv 6) (pa_cons (pv 5) pa_nil)))) rfl)
 (pss_cons (ps_expr (pe_call G_fill_up (hr.mono (by first | decide | omega)) rfl T.g_fill_up T.F_fill_up.kp b_fill_up .nil pass0 (pa_cons (pv 0) (pa_cons (pv 2) pa_nil))))
 (pss_one (ps_ret (pe_call G_value_in (hr.mono (by first | decide | omega)) rfl T.g_value_in T.F_value_in.kp b_value_in .nil pass0 (pa_cons (pv 4) (pa_cons (pv 1) pa_nil)))))))))), ?_⟩
    obtain ⟨u, nx, hu, hm, hg⟩ := leaf_ex hT key
    obtain ⟨u', su, hu'⟩ := sb_leaf (key := key) hT
    have eu : u' = u := by
      rw [hu] at hu'
      exact (Option.some.inj hu').symm
    subst eu
    have hul : u'.ps.length ≤ room := lfs_few hT.wf u' hm
    have r8 := hT.r8
    refine ⟨_, rfl, s, dx, _, rfl, hs, bfs_no (by decide +kernel) (by decide +kernel) (by decide +kernel) (by decide +kernel), ?_⟩
    refine ⟨_, rfl, s, dx, d, _, _, key, l, t, S, rfl, hs, hd, hT.laid, hT.keyOk, hT.few, hl, fun H1 wy s1 hw1 => ?_⟩
    have hs1 := s1 _ _ hs
    have hd1 := hd.same s1
    obtain ⟨pv, hv1, t1, q, rfl, ht1, hq1⟩ := hd1.get hg
    obtain ⟨xs, hqx, hxs⟩ := id hq1
    refine ⟨_, rfl, s, _, dx, _, _, rfl, hs1, T.cl_Book, T.na_Book_pages, bf_pages, _, rfl, 1, rfl, wy, _, _, _, rfl, rfl, SqT.of hw1, way_last hu, d, _, rfl, hv1, t1, _, rfl, SqT.of ht1, rfl, _, _, rfl, _, _, rfl, _, _, rfl, rfl, ?_⟩
    refine ⟨_, rfl, q, rfl, ⟨_, hqx.sq⟩, fun B hB => ?_⟩
    refine lc_it (walk_tup (xs := xs)) (fun i H' => Same H1 H' ∧ ∃ zs, H' B = some (.lst zs) ∧ Paired (PrAt H') zs ((u'.ps.take i).filter (fun q => decide (q.1 ≠ key)))) ⟨same_new hB, [], upd_same, .nil⟩ (fun i H' _ z => (hqx.same z.1).sq) ?_ ?_
    · rintro i x H3 H4 hi' ⟨s3, zs, hD3, hz3⟩ ⟨rfl, hx4⟩
      obtain ⟨p, hp, hpx⟩ := pget1 hxs hx4
      have hpx3 := hpx.keep (Keep.of s3)
      obtain ⟨t2, rfl, ht2⟩ := id hpx3
      have e0 : (u'.ps.take (i + 1)).filter (fun q => decide (q.1 ≠ key)) = (u'.ps.take i).filter (fun q => decide (q.1 ≠ key)) ++ (if decide (p.1 ≠ key) = true then [p] else []) := by
        rw [take_more hp, List.filter_append, List.filter_cons, List.filter_nil]
      refine ⟨rfl, ?_⟩
      refine ⟨_, rfl, t2, _, _, _, rfl, rfl, SqT.of ht2, rfl, _, rfl, rfl, _, rfl, ?_⟩
      have ed : (!decide (V.int p.1 = V.int key)) = decide (p.1 ≠ key) := by
        by_cases c : p.1 = key
        · rw [c, decide_eq_true rfl, decide_eq_false (fun z => z rfl)]
          rfl
        · rw [decide_eq_false (fun z => c (by injection z)), decide_eq_true c]
          rfl
      rw [ed]
      cases c1 : decide (p.1 ≠ key) with
      | false =>
        refine iteF ⟨s3, zs, hD3, ?_⟩
        rw [e0, c1, if_neg Bool.false_ne_true, List.append_nil]
        exact hz3
      | true =>
        refine iteT ?_
        have k5 : Keep H4 (upd H4 B (.lst (zs ++ [.ref t2]))) := (Keep.refl _).upd fun zs e => by rw [hD3] at e; cases e; rfl
        refine ⟨_, rfl, _, hD3, ?_, same_upd s3 hB, _, upd_same, ?_⟩
        · rw [hz3.length]
          refine Nat.lt_of_le_of_lt (List.length_filter_le _ _) (Nat.lt_of_le_of_lt (List.length_take_le' _ _) (Nat.lt_of_le_of_lt (by omega : _ ≤ 1000) (by decide)))
        · rw [e0, c1, if_pos rfl]
          exact paired_snoc (PrAt.keep k5 ⟨t2, rfl, ht2⟩) (paired_imp (fun _ _ r => PrAt.keep k5 r) hz3)
    · rintro H2 ⟨s2, zs, hD2, hz2⟩
      rw [hxs.length, List.take_length] at hz2
      refine ⟨B, _, rfl, SqL.of hD2, fun p1 o1 hp1 ho1 => ?_⟩
      have s3 := same_new (o := .frz o1 (.tup zs)) hp1
      have hp13 : FzT (upd H2 p1 (.frz o1 (.tup zs))) p1 zs := ⟨o1, upd_same, ho1⟩
      generalize upd H2 p1 (.frz o1 (.tup zs)) = H3 at s3 hp13
      refine ⟨_, rfl, _, rfl, by show 3 ≤ sizeLine; decide, fun tl htl => ?_⟩
      have s4 := same_new (o := .tup [.str "leaf", .ref p1, .int nx]) htl
      have htl4 : upd H3 tl (.tup [.str "leaf", .ref p1, .int nx]) tl = some (.tup [.str "leaf", .ref p1, .int nx]) := upd_same
      generalize upd H3 tl (.tup [.str "leaf", .ref p1, .int nx]) = H4 at s4 htl4
      have s14 := (s2.trans s3).trans s4
      have hs4 := s14 _ _ hs1
      have hw4 := s14 _ _ hw1
      obtain ⟨es4, hd4, hde4⟩ := hd1.same s14
      have el4 := hde4.length
      have few := tree_few hT
      have nsd : s ≠ d := fun z => by rw [z, hd4] at hs4; cases hs4
      have nwd : wy ≠ d := fun z => by rw [z, hd4] at hw4; cases hw4
      obtain ⟨k5, b5, hd5⟩ := dset (v := .ref tl) (g := .leaf (u'.ps.filter fun q => decide (q.1 ≠ key)) nx) hd4 hde4 hg ⟨tl, p1, rfl, htl4, zs, hp13.same s4, paired_imp (fun _ _ r => PrAt.keep (Keep.of (s3.trans s4)) r) hz2⟩
      refine ⟨_, rfl, s, _, dx, _, _, rfl, hs4, T.cl_Book, T.na_Book_pages, bf_pages, _, rfl, 1, rfl, wy, _, _, _, rfl, rfl, SqT.of hw4, way_last hu, d, _, rfl, DPut.k (k := .inl (num 0 u')) hd4 (Nat.lt_of_le_of_lt (by omega : _ ≤ 100000) (by decide)), ?_⟩
      have hs5 := b5 _ _ nsd hs4
      have hw5 := b5 _ _ nwd hw4
      have hq5 := hq1.keep ((Keep.of s14).trans k5)
      generalize upd H4 d (.dK (putK es4 (.inl (num 0 u')) (.ref tl))) = H5 at k5 b5 hd5 hs5 hw5 hq5
      obtain ⟨xs5, hqx5, hxs5⟩ := id hq5
      refine ⟨_, rfl, _, rfl, s, dx, d, wy, room, l, t, S, _, key, u', rfl, hs5, hw5, hd5, hT, hl, su, del_leaf hg, fun H6 D' f6 dl hs6 hd6 => ?_⟩
      have kd6 : Keep H5 H6 := by
        obtain ⟨es5, hd5, _⟩ := hd5
        exact ⟨fun b u tu e => f6 b u (fun z => by rw [z, hd5] at e; cases e; cases tu) (fun z => by rw [z, hs5] at e; cases e; cases tu) e⟩
      refine ⟨_, rfl, _, rfl, q, u'.ps, key, rfl, hq5.keep kd6, fun H7 s7 => ?_⟩
      rw [leaf_lkp hT hu hm]
      exact kq H7 D' (fun b o n1 n2 e => s7 _ _ (f6 _ _ n1 n2 (b5 _ _ n1 (s14 _ _ (s1 _ _ e))))) dl (s7 _ _ hs6) (hd6.same s7)
def sp_drop : Sp := fun vs H Q _ => ∃ (v : V) (key : Int) (room l : Nat) (t : Tr l) (S : List (Int × Pg)), vs = [v, .int key] ∧ SndAt H v room l t S ∧ 0 ≤ key ∧ key ≤ 1000000000 ∧ l ≤ 100 ∧
  ∀ (H' : Hp) (a b : Addr) (S' : List (Int × Pg)), Same H H' → H' a = some (.tup [.ref b, ovV (lkpP (prs l t) key)]) → SndAt H' (.ref b) room (rootT l (delT ((room + 1) / 2) key l t)).1 (rootT l (delT ((room + 1) / 2) key l t)).2 S' → Q (.ref a) H'
theorem ok_drop (T : TX K mg) : FnOk P w K mg base CX0 13 (He.ga K "drop") T.fd_drop ["tree", "key"] sp_drop := by
  have G_need_tree : FnOk P w K mg base CX0 12 (He.ga K "need_tree") T.fd_need_tree ["thing"] sp_need_tree := ok_need_tree T
  have b_need_tree := b_need_tree T
  have G_need_key : FnOk P w K mg base CX0 4 (He.ga K "need_key") T.fd_need_key ["thing"] sp_need_key := ok_need_key T
  have b_need_key := b_need_key T
  have G_Book_init : FnOk P w K mg base CX0 2 (He.ma K (He.ga K "Book") "__init__") T.fd_Book_init ["self", "tree"] (sp_Book_init K) := ok_Book_init T
  have b_Book_init := b_Book_init T
  have G_drop_in : FnOk P w K mg base CX0 5 (He.ga K "drop_in") T.fd_drop_in ["book", "key"] (sp_drop_in K) := ok_drop_in T
  have b_drop_in := b_drop_in T
  have G_Book_tree : FnOk P w K mg base CX0 1 (He.ma K (He.ga K "Book") "tree") T.fd_Book_tree ["self"] (sp_Book_tree K) := ok_Book_tree T
  have b_Book_tree := b_Book_tree T
  refine T.F_drop.ok sc_drop (fun vs H Q E h => ?_) (fun cdv A outer st H vs Q E hr h => ?_)
  · obtain ⟨v, key, room, l, t, S, rfl, _⟩ := h
    rfl
  · obtain ⟨v, key, room, l, t, S, rfl, ⟨h, hT⟩, k0, k1, hl, kq⟩ := h
    refine ⟨_, PSs.nox (pss_cons (ps_expr (pe_call G_need_tree (hr.mono (by first | decide | omega)) rfl T.g_need_tree T.F_need_tree.kp b_need_tree .nil pass0 (pa_cons (pv 0) pa_nil)))
 (pss_cons (ps_expr (pe_call G_need_key (hr.mono (by first | decide | omega)) rfl T.g_need_key T.F_need_key.kp b_need_key .nil pass0 (pa_cons (pv 1) pa_nil)))
 (pss_cons (ps_set (i := 2) sc_drop.nd rfl (Or.inl rfl) (pe_make T.mk_Book G_Book_init (hr.mono (by first | decide | omega)) rfl T.g_Book b_Book_init .nil pass0 (pa_cons (pv 0) pa_nil)))
 (pss_cons (ps_set (i := 3) sc_drop.nd rfl (Or.inl rfl) (pe_call G_drop_in (hr.mono (by first | decide | omega)) rfl T.g_drop_in T.F_drop_in.kp b_drop_in .nil pass0 (pa_cons (pv 2) (pa_cons (pv 1) pa_nil))))
 (pss_one (ps_ret (pe_tup (pa_cons (pe_meth0 (pv 2) T.cl_Book T.m_Book_tree G_Book_tree (hr.mono (by first | decide | omega)) b_Book_tree .nil pass0) (pa_cons (pv 3) pa_nil))))))))), ?_⟩
    refine ⟨_, rfl, v, room, l, t, S, rfl, ⟨h, hT⟩, hl, fun H1 s1 => ?_⟩
    refine ⟨_, rfl, key, rfl, k0, k1, ?_⟩
    have hT1 := hT.same s1
    refine ⟨_, rfl, fun x dx hx hdx nex => ?_⟩
    have hx0 : H1 x = none := hx
    have s2 : Same H1 (upd (upd H1 dx (.own x)) x (.ins (He.ga K "Book") dx [])) := fun b o e => by
      rw [upd_ne (ne_of_none e hx), upd_ne (ne_of_none e hdx)]
      exact e
    refine ⟨x, dx, v, room, l, t, S, rfl, upd_same, ⟨h, hT1.same s2⟩, fun H3 d b3 hs3 hd3 hdn => ?_⟩
    have s3 : Same H1 H3 := fun b o e => b3 b o (ne_of_none e hx) (s2 b o e)
    have hdn1 : H1 d = none := by
      cases z : H1 d with
      | none => rfl
      | some o => exact absurd (s2 _ _ z) (by rw [hdn]; simp)
    refine ⟨rfl, ?_⟩
    refine ⟨_, rfl, _, rfl, x, dx, d, room, l, t, S, key, rfl, hs3, hd3, h, hl, fun H4 D' f4 dl hs4 hd4 => ?_⟩
    obtain ⟨e1, e2, e3, e4, e5⟩ := del_tree h dl
    refine ⟨_, rfl, x, dx, _, rfl, hs4, bfs_no (by decide +kernel) (by decide +kernel) (by decide +kernel) (by decide +kernel), ?_⟩
    refine ⟨x, dx, d, _, _, _, _, rfl, hs4, hd4, fun H5 b S' s5 hA5 hp5 ho5 => ?_⟩
    refine ⟨_, rfl, by show 2 ≤ sizeLine; decide, fun a ha => ?_⟩
    refine kq _ a b S' (fun c o z => same_new ha _ _ (s5 _ _ (f4 _ _ (ne_of_none (s1 _ _ z) hdn1) (ne_of_none (s1 _ _ z) hx0) (s3 _ _ (s1 _ _ z))))) upd_same ⟨e5 S' hp5 ho5, ?_⟩
    rw [← e1]
    exact hA5.same (same_new ha)
end
end K29

namespace K29
open PySem PySem.Spec PyProof.Rows L2 RZ HX TR
section
variable {P : Program} {w : World} {K : PySem.W.Frag} {mg : Str → Option Value} {base : Heap}
def sp_law_same (K : PySem.W.Frag) (N : Nat) : Sp := fun vs H Q _ => ∃ (x y : V) (d : PyData), vs = [x, y] ∧ SameD N d ∧ Dp K H x d ∧ Dp K H y d ∧ ∀ H', Same H H' → Q (.bl true) H'
theorem ok_law_same (T : TX K mg) : ∀ N : Nat, FnOk P w K mg base CX0 (N + 1) (He.ga K "_law_same") T.fd_law_same ["found", "due"] (sp_law_same K N) := by
  intro N
  induction N with
  | zero =>
    refine T.F_law_same.ok sc_law_same (fun vs H Q E h => ?_) (fun cdv A outer st H vs Q E hr h => ?_)
    · obtain ⟨x, y, d, rfl, _⟩ := h
      rfl
    · obtain ⟨x, y, d, rfl, h, _⟩ := h
      exact h.elim
  | succ N ih =>
    have G_law_same := ih
    have b_law_same := b_law_same T
    refine T.F_law_same.ok sc_law_same (fun vs H Q E h => ?_) (fun cdv A outer st H vs Q E hr h => ?_)
    · obtain ⟨x, y, d, rfl, _⟩ := h
      rfl
    · obtain ⟨x, y, d, rfl, hd, hx, hy, kq⟩ := h
      refine ⟨_, PSs.nox (pss_cons (ps_if (pt_val (pe_callB call_isi rfl T.n_isinstance (by decide +kernel) (pa_cons (pv 1) (pa_cons (pe_ty "tuple" T.n_tuple (by decide +kernel)) pa_nil))))
 (pss_cons (ps_if (PW.pt (pw_or (pt_not (pt_val (pe_callB call_isi rfl T.n_isinstance (by decide +kernel) (pa_cons (pv 0) (pa_cons (pe_ty "tuple" T.n_tuple (by decide +kernel)) pa_nil))))) (pw_or1 (pt_cmpR op_ne (pe_callB call_len_seq rfl T.n_len PySem.boot_len (pa_cons (pv 0) pa_nil)) (pe_callB call_len_seq rfl T.n_len PySem.boot_len (pa_cons (pv 1) pa_nil)) (nomark _)))))
 (pss_one (ps_ret pe_bl))
 pss_nil)
 (pss_one (ps_ret (pe_callB (cr_all rfl) rfl T.n_all (by decide +kernel) (pa_cons (pe_lc (own := [("one", 2), ("other", 3)]) (g := gTup K 2 (gCons (gName 2) (gCons (gName 3) gNil))) (tt := tYes) rfl sc_law_same.nd (pi_zipA rfl T.n_zip (pa_cons (pv 0) (pa_cons (pv 1) pa_nil))) (blkOk_by (own := [("one", 2), ("other", 3)]) (N := ["found", "due", "one", "other"]) (sc := defScope s_law_same) (by decide +kernel)) (fun _ _ _ _ _ => (pg_tup rfl (pgs_cons (pg_name (i := 2) sc_law_same.nd rfl (Or.inl rfl)) (pgs_cons (pg_name (i := 3) sc_law_same.nd rfl (Or.inl rfl)) pgs_nil)))) (fun _ _ _ _ _ => pts_nil) (fun _ _ _ _ _ => (pe_call G_law_same (hr.mono (by first | decide | omega)) rfl T.g_law_same T.F_law_same.kp b_law_same .nil pass0 (pa_cons (pv 2) (pa_cons (pv 3) pa_nil))))) pa_nil)))))
 pss_nil)
 (pss_cons (ps_if (pt_cmpR op_isN (pv 1) pe_non (nomark _))
 (pss_one (ps_ret (pe_cmpR op_isN (pv 0) pe_non (nomark _))))
 pss_nil)
 (pss_cons (ps_if (pt_val (pe_callB call_isiT rfl T.n_isinstance (by decide +kernel) (pa_cons (pv 1) (pa_cons (pe_tup (pa_cons (pe_ty "str" T.n_str (by decide +kernel)) (pa_cons (pe_ty "bool" T.n_bool (by decide +kernel)) pa_nil))) pa_nil))))
 (pss_one (ps_ret (pe_and (pe_callB call_isiT rfl T.n_isinstance (by decide +kernel) (pa_cons (pv 0) (pa_cons (pe_tup (pa_cons (pe_ty "str" T.n_str (by decide +kernel)) (pa_cons (pe_ty "bool" T.n_bool (by decide +kernel)) pa_nil))) pa_nil))) (pe_and (pe_cmpR op_eq (pe_callB call_isi rfl T.n_isinstance (by decide +kernel) (pa_cons (pv 0) (pa_cons (pe_ty "bool" T.n_bool (by decide +kernel)) pa_nil))) (pe_callB call_isi rfl T.n_isinstance (by decide +kernel) (pa_cons (pv 1) (pa_cons (pe_ty "bool" T.n_bool (by decide +kernel)) pa_nil))) (nomark _)) (pe_one (pe_cmpR op_eq (pv 0) (pv 1) (nomark _)))))))
 pss_nil)
 (pss_one (ps_ret (pe_and (pe_callB call_isi rfl T.n_isinstance (by decide +kernel) (pa_cons (pv 0) (pa_cons (pe_ty "int" T.n_int (by decide +kernel)) pa_nil))) (pe_and (pe_not (pe_callB call_isi rfl T.n_isinstance (by decide +kernel) (pa_cons (pv 0) (pa_cons (pe_ty "bool" T.n_bool (by decide +kernel)) pa_nil)))) (pe_one (pe_cmpR op_eq (pv 0) (pv 1) (nomark _)))))))))), ?_⟩
      cases d with
      | list ds => exact hd.elim
      | dict ds => exact hd.elim
      | none =>
        cases hx
        cases hy
        refine ⟨_, rfl, _, _, .type "NoneType", .type "tuple", false, rfl, .ty "tuple", .base .non, kit_ty (by decide +kernel), false, rfl, iteF ?_⟩
        refine ⟨_, rfl, rfl, _, rfl, iteT ?_⟩
        exact ⟨_, rfl, rfl, kq _ (Same.refl _)⟩
      | bool b =>
        cases hx
        cases hy
        refine ⟨_, rfl, _, _, .type "bool", .type "tuple", false, rfl, .ty "tuple", .base (.bl b), kit_ty (by decide +kernel), false, rfl, iteF ?_⟩
        refine ⟨_, rfl, rfl, _, rfl, iteF ?_⟩
        refine ⟨_, rfl, by show 2 ≤ sizeLine; decide, fun q hq => ?_⟩
        refine ⟨_, q, _, .type "bool", [.type "str", .type "bool"], true, rfl, upd_same, .cons (.ty "str") (.cons (.ty "bool") .nil), .base (.bl b),
          kitAny_cons (b := false) (r := true) (kit_ty (by decide +kernel)) (fun _ => kitAny_cons (b := true) (r := true) (kit_ty (by decide +kernel)) (fun h => by cases h) (fun _ => rfl)) (fun h => by cases h), true, rfl, iteT ?_⟩
        refine ⟨_, rfl, by show 2 ≤ sizeLine; decide, fun q2 hq2 => ?_⟩
        refine ⟨_, q2, _, .type "bool", [.type "str", .type "bool"], true, rfl, upd_same, .cons (.ty "str") (.cons (.ty "bool") .nil), .base (.bl b),
          kitAny_cons (b := false) (r := true) (kit_ty (by decide +kernel)) (fun _ => kitAny_cons (b := true) (r := true) (kit_ty (by decide +kernel)) (fun h => by cases h) (fun _ => rfl)) (fun h => by cases h), true, rfl, iteT ?_⟩
        refine ⟨_, rfl, _, _, .type "bool", .type "bool", true, rfl, .ty "bool", .base (.bl b), kit_ty (by decide +kernel), ?_⟩
        refine ⟨_, rfl, _, _, .type "bool", .type "bool", true, rfl, .ty "bool", .base (.bl b), kit_ty (by decide +kernel), rfl, _, rfl, ?_⟩
        refine (congrArg (fun b => (if b = true then _ else _)) (decide_eq_true (rfl : V.bl true = V.bl true))).mpr (iteT ?_)
        refine ⟨_, rfl, _, rfl, rfl, ?_⟩
        rw [decide_eq_true rfl]
        exact kq _ (same_upd (same_new hq) (Same.free (same_new hq) hq2))
      | str b =>
        cases hx
        cases hy
        refine ⟨_, rfl, _, _, .type "str", .type "tuple", false, rfl, .ty "tuple", .base (.str b), kit_ty (by decide +kernel), false, rfl, iteF ?_⟩
        refine ⟨_, rfl, rfl, _, rfl, iteF ?_⟩
        refine ⟨_, rfl, by show 2 ≤ sizeLine; decide, fun q hq => ?_⟩
        refine ⟨_, q, _, .type "str", [.type "str", .type "bool"], true, rfl, upd_same, .cons (.ty "str") (.cons (.ty "bool") .nil), .base (.str b),
          kitAny_cons (b := true) (r := true) (kit_ty (by decide +kernel)) (fun h => by cases h) (fun _ => rfl), true, rfl, iteT ?_⟩
        refine ⟨_, rfl, by show 2 ≤ sizeLine; decide, fun q2 hq2 => ?_⟩
        refine ⟨_, q2, _, .type "str", [.type "str", .type "bool"], true, rfl, upd_same, .cons (.ty "str") (.cons (.ty "bool") .nil), .base (.str b),
          kitAny_cons (b := true) (r := true) (kit_ty (by decide +kernel)) (fun h => by cases h) (fun _ => rfl), true, rfl, iteT ?_⟩
        refine ⟨_, rfl, _, _, .type "str", .type "bool", false, rfl, .ty "bool", .base (.str b), kit_ty (by decide +kernel), ?_⟩
        refine ⟨_, rfl, _, _, .type "str", .type "bool", false, rfl, .ty "bool", .base (.str b), kit_ty (by decide +kernel), rfl, _, rfl, ?_⟩
        refine (congrArg (fun b => (if b = true then _ else _)) (decide_eq_true (rfl : V.bl false = V.bl false))).mpr (iteT ?_)
        refine ⟨_, rfl, _, rfl, rfl, ?_⟩
        rw [decide_eq_true rfl]
        exact kq _ (same_upd (same_new hq) (Same.free (same_new hq) hq2))
      | int i =>
        cases hx
        cases hy
        refine ⟨_, rfl, _, _, .type "int", .type "tuple", false, rfl, .ty "tuple", .base (.int _), kit_ty (by decide +kernel), false, rfl, iteF ?_⟩
        refine ⟨_, rfl, rfl, _, rfl, iteF ?_⟩
        refine ⟨_, rfl, by show 2 ≤ sizeLine; decide, fun q hq => ?_⟩
        refine ⟨_, q, _, .type "int", [.type "str", .type "bool"], false, rfl, upd_same, .cons (.ty "str") (.cons (.ty "bool") .nil), .base (.int _),
          kitAny_cons (b := false) (r := false) (kit_ty (by decide +kernel)) (fun _ => kitAny_cons (b := false) (r := false) (kit_ty (by decide +kernel)) (fun _ => kitAny_nil) (fun h => by cases h)) (fun h => by cases h), false, rfl, iteF ?_⟩
        refine ⟨_, rfl, _, _, .type "int", .type "int", true, rfl, .ty "int", .base (.int _), kit_ty (by decide +kernel), true, rfl, iteT ?_⟩
        refine ⟨_, rfl, _, _, .type "int", .type "bool", false, rfl, .ty "bool", .base (.int _), kit_ty (by decide +kernel), false, rfl, true, rfl, iteT ?_⟩
        refine ⟨_, rfl, _, rfl, rfl, ?_⟩
        rw [decide_eq_true rfl]
        exact kq _ (same_new hq)
      | tuple ds =>
        obtain ⟨hl, hds⟩ := hd
        cases hx with | @tup a xs _ ha hxs =>
        cases hy with | @tup b ys _ hb hys =>
        have lx := dpAll_len hxs
        have ly := dpAll_len hys
        refine ⟨_, rfl, _, _, .type "tuple", .type "tuple", true, rfl, .ty "tuple", tyT hb, kit_ty (by decide +kernel), true, rfl, iteT ?_⟩
        refine ⟨_, rfl, _, _, .type "tuple", .type "tuple", true, rfl, .ty "tuple", tyT ha, kit_ty (by decide +kernel), true, rfl, iteF ?_⟩
        refine ⟨_, rfl, a, _, rfl, .inr ha, _, rfl, b, _, rfl, .inr hb, rfl, _, rfl, ?_⟩
        have e1 : (!decide (V.int (xs.length : Int) = V.int (ys.length : Int))) = false := by rw [lx, ly, decide_eq_true rfl]; rfl
        refine (congrArg (fun b => (if b = true then _ else _)) e1).mpr (iteF ?_)
        refine ⟨_, rfl, _, rfl, a, b, _, _, rfl, .inr ⟨ha, hb, fun D hD => ?_⟩⟩
        refine lc_it (RU.walk_zipT (n := ds.length) (by omega)) (fun i H' => Same H H' ∧ H' D = some (.lst ((List.replicate i true).map V.bl))) ⟨same_new hD, upd_same⟩ (fun i H' _ z => ⟨sqT_same z.1 ha, sqT_same z.1 hb⟩) ?_ ?_
        · rintro i x H3 H4 hi ⟨s3, hD3⟩ ⟨t, x1, x2, rfl, ht, rfl, e1, e2⟩
          obtain ⟨d1, g1, p1⟩ := dpAll_get hxs e1
          obtain ⟨d2, g2, p2⟩ := dpAll_get hys e2
          rw [g1] at g2
          obtain rfl := Option.some.inj g2
          have s4 := s3.trans (same_new (o := .tup [x1, x2]) ht)
          refine ⟨t, _, rfl, SqT.of upd_same, rfl, _, _, rfl, _, _, rfl, rfl, rfl, ?_⟩
          dsimp only [tYes]
          rw [if_pos rfl]
          refine ⟨_, rfl, _, rfl, x1, x2, d1, rfl, hds _ (List.mem_of_getElem? g1), dp_same s4 p1, dp_same s4 p2, fun H5 s5 => ⟨_, s5 _ _ (same_new ht _ _ hD3), ?_, same_upd (s4.trans s5) hD, ?_⟩⟩
          · rw [List.length_map, List.length_replicate]
            exact Nat.lt_of_le_of_lt (by omega : i ≤ 100000) (by decide)
          · rw [upd_same, rep_snoc]
        · rintro H3 ⟨s3, hD3⟩
          refine ⟨D, _, rfl, SqL.of hD3, ?_⟩
          rw [rep_true]
          exact kq H3 s3
end
end K29

namespace K29
open PySem PySem.Spec PyProof.Rows L2 RZ HX TR RP
/-! other numbers -/
def renT (f : Int → Int) : (l : Nat) → Tr l → Tr l
  | 0, t => lfT (f (num 0 t)) t.ps
  | l + 1, t => ndT (f (num (l + 1) t)) t.keys (t.kids.map (renT f l))
def renPg (f : Int → Int) : Pg → Pg
  | .leaf ps nx => .leaf ps (if nx = 0 then 0 else f nx)
  | .node ks kids => .node ks (kids.map f)
section
variable {f : Int → Int}
theorem ren_num : ∀ {l : Nat} {t : Tr l}, num l (renT f l t) = f (num l t)
  | 0, _ => rfl
  | _ + 1, _ => rfl
theorem ren_kids {l : Nat} {t : Tr (l + 1)} : (renT f (l + 1) t).kids = t.kids.map (renT f l) := rfl
theorem ren_fm {α : Type} {l : Nat} (g h : Tr l → List α) (e : ∀ k, g (renT f l k) = h k) (L : List (Tr l)) : (L.map (renT f l)).flatMap g = L.flatMap h := by
  induction L with
  | nil => rfl
  | cons k L ih => rw [List.map_cons, List.flatMap_cons, List.flatMap_cons, e, ih]
theorem fm_map {α β γ : Type} (g : α → List β) (h : β → γ) (L : List α) : (L.flatMap g).map h = L.flatMap fun x => (g x).map h := by
  induction L with
  | nil => rfl
  | cons k L ih => rw [List.flatMap_cons, List.flatMap_cons, List.map_append, ih]
theorem ren_nums : ∀ {l : Nat} {t : Tr l}, nums l (renT f l t) = (nums l t).map f
  | 0, _ => rfl
  | l + 1, t => by
    show f (num (l + 1) t) :: (t.kids.map (renT f l)).flatMap (nums l) = (num (l + 1) t :: t.kids.flatMap (nums l)).map f
    rw [List.map_cons, ren_fm (nums l) (fun k => (nums l k).map f) fun k => ren_nums, fm_map]
theorem ren_prs : ∀ {l : Nat} {t : Tr l}, prs l (renT f l t) = prs l t
  | 0, _ => rfl
  | l + 1, t => ren_fm (prs l) (prs l) (fun k => ren_prs) t.kids
theorem ren_shp : ∀ {l : Nat} {t : Tr l}, shp l (renT f l t) = shp l t
  | 0, _ => rfl
  | l + 1, t => by
    show (t.kids.map (renT f l)).map (shp l) = t.kids.map (shp l)
    rw [List.map_map]
    exact List.map_congr_left fun k _ => ren_shp
theorem ren_lvs : ∀ {l : Nat} {t : Tr l}, lvs l (renT f l t) = (lvs l t).map f
  | 0, _ => rfl
  | l + 1, t => by
    show (t.kids.map (renT f l)).flatMap (lvs l) = (t.kids.flatMap (lvs l)).map f
    rw [ren_fm (lvs l) (fun k => (lvs l k).map f) fun k => ren_lvs, fm_map]
theorem ren_kbs {l : Nat} (ih : ∀ {t : Tr l} {lo hi : Int}, KeyB l t lo hi → KeyB l (renT f l t) lo hi) {hi : Int} : ∀ {kids : List (Tr l)} {ks : List Int} {lo : Int}, KBs (KeyB l) lo ks kids hi → KBs (KeyB l) lo ks (kids.map (renT f l)) hi
  | [], ks, _, h => by cases ks <;> exact h.elim
  | [k], [], _, h => ih h
  | _ :: _ :: _, [], _, h => h.elim
  | k :: kids, b :: ks, _, h => ⟨ih h.1, ren_kbs ih h.2⟩
theorem ren_keyB : ∀ {l : Nat} {t : Tr l} {lo hi : Int}, KeyB l t lo hi → KeyB l (renT f l t) lo hi
  | 0, _, _, _, h => h
  | _ + 1, _, _, _, h => ren_kbs (fun h => ren_keyB h) h
theorem ren_keyOk : ∀ {l : Nat} {t : Tr l}, KeyOk l t → KeyOk l (renT f l t)
  | 0, _, _ => trivial
  | l + 1, t, ⟨h1, h2, h3, h4⟩ => ⟨h1, h2, by rw [ren_kids, List.length_map]; exact h3, fun k hk => by
    obtain ⟨u, hu, rfl⟩ := List.mem_map.mp hk
    exact ren_keyOk (h4 u hu)⟩
theorem ren_laid {S S' : List (Int × Pg)} (e : ∀ n g, lkp S n = some g → lkp S' (f n) = some (renPg f g)) : ∀ {l : Nat} {t : Tr l}, Laid S l t → Laid S' l (renT f l t)
  | 0, t, ⟨nx, h⟩ => ⟨_, e _ _ h⟩
  | l + 1, t, ⟨h1, h2⟩ => by
    refine ⟨(e _ _ h1).trans ?_, fun k hk => ?_⟩
    · show some (Pg.node t.keys ((t.kids.map (num l)).map f)) = some (.node t.keys ((t.kids.map (renT f l)).map (num l)))
      rw [List.map_map, List.map_map]
      congr 2
      exact List.map_congr_left fun k _ => ren_num.symm
    · obtain ⟨u, hu, rfl⟩ := List.mem_map.mp hk
      exact ren_laid e (h2 u hu)
theorem ren_rows : ∀ {m : Nat} {F : List (Tr m)}, rows m (F.map (renT f m)) = (rows m F).map (List.map f)
  | 0, F => by
    show [(F.map (renT f 0)).map (num 0)] = [(F.map (num 0)).map f]
    rw [List.map_map, List.map_map]
    rfl
  | m + 1, F => by
    show (F.map (renT f (m + 1))).map (num (m + 1)) :: rows m (kidsF (F.map (renT f (m + 1)))) = (F.map (num (m + 1))).map f :: (rows m (kidsF F)).map (List.map f)
    have e : kidsF (F.map (renT f (m + 1))) = (kidsF F).map (renT f m) := by
      unfold kidsF
      rw [fm_map]
      induction F with
      | nil => rfl
      | cons k F ih => rw [List.map_cons, List.flatMap_cons, List.flatMap_cons, ih]; rfl
    rw [e, ren_rows, List.map_map, List.map_map]
    rfl
theorem ren_tree {room l : Nat} {t : Tr l} {S S' : List (Int × Pg)} (h : TR.Tree room l t S) (inj : ∀ a ∈ nums l t, ∀ b ∈ nums l t, f a = f b → a = b) (rg : ∀ a ∈ nums l t, 1 ≤ f a ∧ f a ≤ 1000000) (p : S'.Perm (S.map fun q => (f q.1, renPg f q.2))) (srt : S'.Pairwise fun a b => a.1 < b.1) : TR.Tree room l (renT f l t) S' := by
  have nd : ((nums l t).map f).Nodup := by
    rw [List.nodup_iff_pairwise_ne, List.pairwise_map]
    exact List.Pairwise.imp_of_mem (fun {a b} ha hb ne e => ne (inj a ha b hb e)) (List.nodup_iff_pairwise_ne.mp h.nodup)
  have pk : (S'.map (·.1)).Perm ((nums l t).map f) := by
    have z := p.map (·.1)
    rw [List.map_map] at z
    have z2 := h.perm.map f
    rw [List.map_map] at z2
    exact z.trans z2
  have lk : ∀ n g, lkp S n = some g → lkp S' (f n) = some (renPg f g) := fun n g e => by
    refine mem_lkp (pk.nodup_iff.mpr nd) (p.mem_iff.mpr ?_)
    exact List.mem_map.mpr ⟨(n, g), lkp_mem e, rfl⟩
  refine ⟨h.r3, h.r8, by rw [ren_shp]; exact h.wf, by rw [ren_nums]; exact nd, ?_, by rw [ren_nums]; exact pk, srt, ren_laid lk h.laid, ?_, ren_keyB h.keyB, ren_keyOk h.keyOk, by rw [ren_prs]; exact h.rising, by rw [ren_prs]; exact h.good, by rw [ren_nums, List.length_map]; exact h.few⟩
  · rw [ren_nums]
    intro k hk
    obtain ⟨a, ha, rfl⟩ := List.mem_map.mp hk
    exact rg a ha
  · rw [ren_lvs, List.length_map]
    intro j n hj hn
    rw [List.getElem?_map] at hn
    cases c : (lvs l t)[j]? with
    | none => rw [c] at hn; cases hn
    | some m =>
      rw [c] at hn
      cases hn
      obtain ⟨ps, z⟩ := h.next j m hj c
      refine ⟨ps, (lk _ _ z).trans ?_⟩
      show some (Pg.leaf ps _) = some (.leaf ps _)
      congr 2
      rw [List.getElem?_map]
      cases d : (lvs l t)[j + 1]? with
      | none => rfl
      | some v =>
        have hv : v ∈ nums l t := lvs_sub.mem (List.mem_of_getElem? d)
        have := (h.range v hv).1
        show (if v = 0 then 0 else f v) = f v
        rw [if_neg (by omega)]
end
end K29

namespace K29
open PySem PySem.Spec PyProof.Rows L2 RZ HX TR RP EQT
theorem kids_in {S : List (Int × Pg)} {n : Int} {ks kd : List Int} (e : lkp S n = some (.node ks kd)) : ∀ {l : Nat} {t : Tr l}, Laid S l t → n ∈ nums l t → ∀ k ∈ kd, k ∈ nums l t
  | 0, t, ⟨nx, h⟩, hn => by
    obtain rfl := List.mem_singleton.mp hn
    rw [h] at e
    cases e
  | l + 1, t, ⟨h1, h2⟩, hn => fun k hk => by
    rcases List.mem_cons.mp hn with rfl | hn
    · rw [h1] at e
      cases e
      obtain ⟨u, hu, rfl⟩ := List.mem_map.mp hk
      refine List.mem_cons_of_mem _ (List.mem_flatMap.mpr ⟨u, hu, ?_⟩)
      cases l with
      | zero => exact List.mem_singleton.mpr rfl
      | succ l => exact List.mem_cons_self ..
    · obtain ⟨u, hu, hn⟩ := List.mem_flatMap.mp hn
      exact List.mem_cons_of_mem _ (List.mem_flatMap.mpr ⟨u, hu, kids_in e (h2 u hu) hn k hk⟩)
theorem leaf_in {S : List (Int × Pg)} {n nx : Int} {ps : List (Int × Int)} (e : lkp S n = some (.leaf ps nx)) : ∀ {l : Nat} {t : Tr l}, Laid S l t → n ∈ nums l t → n ∈ lvs l t
  | 0, t, _, hn => hn
  | l + 1, t, ⟨h1, h2⟩, hn => by
    rcases List.mem_cons.mp hn with rfl | hn
    · rw [h1] at e
      cases e
    · obtain ⟨u, hu, hn⟩ := List.mem_flatMap.mp hn
      exact List.mem_flatMap.mpr ⟨u, hu, leaf_in e (h2 u hu) hn⟩
theorem next_in {room l : Nat} {t : Tr l} {S : List (Int × Pg)} (h : TR.Tree room l t S) {n nx : Int} {ps : List (Int × Int)} (e : lkp S n = some (.leaf ps nx)) (hn : n ∈ nums l t) : nx = 0 ∨ nx ∈ nums l t := by
  obtain ⟨j, hj⟩ := List.mem_iff_getElem?.mp (leaf_in e h.laid hn)
  obtain ⟨ps', z⟩ := h.next j n (List.getElem?_eq_some_iff.mp hj).1 hj
  rw [e] at z
  cases z
  cases c : (lvs l t)[j + 1]? with
  | none => exact .inl rfl
  | some v => exact .inr (lvs_sub.mem (List.mem_of_getElem? c))
section
variable {P : Program} {w : World} {K : PySem.W.Frag} {mg : Str → Option Value} {base : Heap}
def RwAt (f : Int → Int) (H : Hp) (z : Addr × Int × V) (q : Int × Pg) : Prop := z.2.1 = f q.1 ∧ H z.1 = some (.tup [.int z.2.1, z.2.2]) ∧ PgAt H z.2.2 (renPg f q.2)
theorem RwAt.keep {f : Int → Int} {H H' : Hp} (k : Keep H H') {z : Addr × Int × V} {q : Int × Pg} (h : RwAt f H z q) : RwAt f H' z q := ⟨h.1, k _ _ h.2.1, h.2.2.keep k⟩
theorem sh_same : ∀ {N l : Nat} {s : Sh l} {room : Nat} {top : Bool}, l < N → room ≤ 8 → WfSh room l top s → SameD N (shD l s)
  | 0, _, _, _, _, h, _, _ => absurd h (Nat.not_lt_zero _)
  | N + 1, 0, s, _, _, _, _, _ => True.intro
  | N + 1, l + 1, s, room, top, h, r8, w => by
    refine SameD.tup (by rw [List.length_map]; have := w.2.1; omega) fun d hd => ?_
    obtain ⟨k, hk, rfl⟩ := List.mem_map.mp hd
    exact sh_same (by omega) r8 (w.2.2 k hk)
def sp_law_walked (N : Nat) : Sp := fun vs H Q _ => ∃ (l room : Nat) (top : Bool) (t : Tr l) (d : Addr) (S : List (Int × Pg)), vs = [.ref d, .int (num l t)] ∧ l < N ∧ DctAt H d S ∧ Laid S l t ∧ room ≤ 8 ∧ WfSh room l top (shp l t) ∧
  ∀ (H' : Hp) (v : V), Same H H' → ShAt H' l v (shp l t) → Q v H'
theorem ok_law_walked (T : TX K mg) : ∀ N : Nat, FnOk P w K mg base CX0 (N + 1) (He.ga K "_law_walked") T.fd_law_walked ["pages", "number"] (sp_law_walked N) := by
  intro N
  induction N with
  | zero =>
    refine T.F_law_walked.ok sc_law_walked (fun vs H Q E h => ?_) (fun cdv A outer st H vs Q E hr h => ?_)
    · obtain ⟨l, room, top, t, d, S, rfl, _⟩ := h
      rfl
    · obtain ⟨l, room, top, t, d, S, rfl, hl, _⟩ := h
      omega
  | succ N ih =>
    have G_law_walked := ih
    have b_law_walked := b_law_walked T
    refine T.F_law_walked.ok sc_law_walked (fun vs H Q E h => ?_) (fun cdv A outer st H vs Q E hr h => ?_)
    · obtain ⟨l, room, top, t, d, S, rfl, _⟩ := h
      rfl
    · obtain ⟨l, room, top, t, d, S, rfl, hl, hd, hL, r8, wf, kq⟩ := h
      refine ⟨_, PSs.nox (pss_cons (ps_asg (pe_dget (hu_of hr) (pv 0) (pv 1) (fun _ _ => rfl)) (pg_tup rfl (pgs_cons (pg_name (i := 2) sc_law_walked.nd rfl (Or.inl rfl)) (pgs_cons (pg_name (i := 3) sc_law_walked.nd rfl (Or.inl rfl)) (pgs_cons (pg_name (i := 4) sc_law_walked.nd rfl (Or.inl rfl)) pgs_nil)))))
 (pss_cons (ps_if (pt_cmpR op_eq (pv 2) pe_str (nomark _))
 (pss_one (ps_ret (pe_callB call_len_seq rfl T.n_len PySem.boot_len (pa_cons (pv 3) pa_nil))))
 pss_nil)
 (pss_one (ps_ret (pe_callTy call_tuple_of rfl T.n_tuple (by decide +kernel) (pa_cons (pe_lc (own := [("kid", 5)]) (g := gName 5) (tt := tYes) rfl sc_law_walked.nd (pi_tup (pv 4)) (blkOk_by (own := [("kid", 5)]) (N := ["pages", "number", "word", "some", "others", "kid"]) (sc := defScope s_law_walked) (by decide +kernel)) (fun _ _ _ _ _ => (pg_name (i := 5) sc_law_walked.nd rfl (Or.inl rfl))) (fun _ _ _ _ _ => pts_nil) (fun _ _ _ _ _ => (pe_call G_law_walked (hr.mono (by first | decide | omega)) rfl T.g_law_walked T.F_law_walked.kp b_law_walked .nil pass0 (pa_cons (pv 0) (pa_cons (pv 5) pa_nil))))) pa_nil)))))), ?_⟩
      cases l with
      | zero =>
        obtain ⟨nx, hk⟩ := hL
        obtain ⟨v, hv, t1, q, rfl, ht1, xs, hq, hpx⟩ := hd.get hk
        refine ⟨_, rfl, _, rfl, d, _, rfl, hv, t1, _, rfl, SqT.of ht1, rfl, _, _, rfl, _, _, rfl, _, _, rfl, rfl, ?_⟩
        refine ⟨_, rfl, rfl, _, rfl, iteT ?_⟩
        refine ⟨_, rfl, q, _, rfl, .inr hq.sq, ?_⟩
        rw [hpx.length]
        exact kq H _ (Same.refl H) rfl
      | succ l =>
        obtain ⟨hk, hks⟩ := hL
        obtain ⟨v, hv, t1, q1, q2, rfl, ht1, _, hq2⟩ := hd.get hk
        obtain ⟨w1, w2, w3⟩ := wf
        have kl : t.kids.length ≤ 8 := by
          have e : (shp (l + 1) t).ks.length = t.kids.length := by
            show (t.kids.map (shp l)).length = _
            rw [List.length_map]
          omega
        refine ⟨_, rfl, _, rfl, d, _, rfl, hv, t1, _, rfl, SqT.of ht1, rfl, _, _, rfl, _, _, rfl, _, _, rfl, rfl, ?_⟩
        refine ⟨_, rfl, rfl, _, rfl, iteF ?_⟩
        refine ⟨_, rfl, q2, rfl, ⟨_, hq2.sq⟩, fun L hL0 => ?_⟩
        refine lc_it (walk_tup (xs := (t.kids.map (num l)).map V.int)) (fun j H' => Same H H' ∧ ∃ xs, H' L = some (.lst xs) ∧ xs.length = j ∧ Paired (fun x k => ShAt H' l x (shp l k)) xs (t.kids.take j)) ⟨same_new hL0, [], upd_same, rfl, .nil⟩ (fun j H' _ z => (FzT.same z.1 hq2).sq) ?_ ?_
        · rintro j x H3 H4 hj ⟨s3, xs, hL3, ej, hpx⟩ ⟨rfl, hx⟩
          obtain ⟨n, hn, rfl⟩ := map_at hx
          obtain ⟨k, hk', rfl⟩ := map_at hn
          have mk := List.mem_of_getElem? hk'
          refine ⟨rfl, ?_⟩
          dsimp only [tYes]
          rw [if_pos rfl]
          refine ⟨_, rfl, _, rfl, l, room, false, k, d, S, rfl, by omega, hd.same s3, hks k mk, r8, w3 (shp l k) (List.mem_map_of_mem mk), fun H5 v5 s5 hv5 => ?_⟩
          have hL5 := s5 _ _ hL3
          have k6 : Keep H5 (upd H5 L (.lst (xs ++ [v5]))) := (Keep.refl _).upd fun zs e => by rw [hL5] at e; cases e; rfl
          refine ⟨xs, hL5, ?_, same_upd (s3.trans s5) hL0, xs ++ [v5], upd_same, by rw [List.length_append, ej]; rfl, ?_⟩
          · rw [ej]
            exact Nat.lt_of_le_of_lt (by have := (List.getElem?_eq_some_iff.mp hk').1; omega : _ ≤ 8) (by decide)
          · rw [take_more hk']
            exact paired_snoc (R := fun x (k : Tr l) => ShAt _ l x (shp l k)) (ShAt.keep k6 hv5) (paired_imp (R := fun x (k : Tr l) => ShAt H4 l x (shp l k)) (fun _ _ r => ShAt.keep ((Keep.of s5).trans k6) r) hpx)
        · rintro H3 ⟨s3, xs, hL3, ej, hpx⟩
          rw [List.take_of_length_le (by rw [List.length_map, List.length_map]; exact Nat.le_refl _)] at hpx
          refine ⟨L, _, rfl, .inl ⟨SqL.of hL3, fun a ha => ?_⟩⟩
          have s4 : Same H3 (upd H3 a (.tup xs)) := same_new ha
          refine kq _ _ (s3.trans s4) ⟨a, xs, rfl, upd_same, ?_⟩
          exact paired_mapr (paired_imp (R := fun x (k : Tr l) => ShAt H3 l x (shp l k)) (fun _ _ r => ShAt.keep (Keep.of s4) r) hpx)
def sp_law_right : Sp := fun vs H Q _ => ∃ (v : V) (room l : Nat) (t : Tr l) (S : List (Int × Pg)), vs = [v] ∧ SndAt H v room l t S ∧ l ≤ 8 ∧ ∀ H', Same H H' → Q (.bl true) H'
theorem ok_law_right (T : TX K mg) : FnOk P w K mg base CX0 14 (He.ga K "_law_right") T.fd_law_right ["tree"] sp_law_right := by
  have G_shape_of : FnOk P w K mg base CX0 13 (He.ga K "shape_of") T.fd_shape_of ["tree"] sp_shape_of := ok_shape_of T
  have b_shape_of := b_shape_of T
  have G_law_walked : FnOk P w K mg base CX0 10 (He.ga K "_law_walked") T.fd_law_walked ["pages", "number"] (sp_law_walked 9) := ok_law_walked T 9
  have b_law_walked := b_law_walked T
  have G_law_same : FnOk P w K mg base CX0 11 (He.ga K "_law_same") T.fd_law_same ["found", "due"] (sp_law_same K 10) := ok_law_same T 10
  have b_law_same := b_law_same T
  refine T.F_law_right.ok sc_law_right (fun vs H Q E h => ?_) (fun cdv A outer st H vs Q E hr h => ?_)
  · obtain ⟨v, room, l, t, S, rfl, _⟩ := h
    rfl
  · obtain ⟨v, room, l, t, S, rfl, hsnd, hl, kq⟩ := h
    refine ⟨_, PSs.nox (pss_one (ps_ret (pe_call G_law_same (hr.mono (by first | decide | omega)) rfl T.g_law_same T.F_law_same.kp b_law_same .nil pass0 (pa_cons (pe_call G_shape_of (hr.mono (by first | decide | omega)) rfl T.g_shape_of T.F_shape_of.kp b_shape_of .nil pass0 (pa_cons (pv 0) pa_nil)) (pa_cons (pe_call G_law_walked (hr.mono (by first | decide | omega)) rfl T.g_law_walked T.F_law_walked.kp b_law_walked .nil pass0 (pa_cons (pe_callTy (RU.call_dictT rfl) rfl T.n_dict (by decide +kernel) (pa_cons (pe_ix ix_tup (pv 0) pe_int (fun _ _ => rfl)) pa_nil)) (pa_cons (pe_ix ix_tup (pv 0) pe_int (fun _ _ => rfl)) pa_nil))) pa_nil))))), ?_⟩
    refine ⟨_, rfl, v, room, l, t, S, rfl, hsnd, hl, fun H1 sv s1 hsv => ?_⟩
    obtain ⟨a, b, o, xs, ev, ha, hb, ho, hx⟩ := hsnd.at_.same s1
    subst ev
    have h := hsnd.tree
    have ndS : (S.map (·.1)).Nodup := h.perm.nodup_iff.mpr h.nodup
    obtain ⟨ps, kvs, e, p1, p2, p3⟩ := num_pairs (K := K) hx
    subst e
    refine ⟨_, rfl, a, _, _, _, rfl, rfl, SqT.of ha, rfl, b, o, ps, kvs, rfl, hb, ho, p1, fun d hd0 => ?_⟩
    obtain ⟨s2, hd⟩ := pages_dict p2 p3 ndS hd0
    generalize upd H1 d (.dK (mergeK [] kvs)) = H2 at s2 hd
    refine ⟨_, rfl, a, _, _, _, rfl, rfl, SqT.of (s2 _ _ ha), rfl, l, room, true, t, d, S, rfl, by omega, hd, h.laid, h.r8, h.wf, fun H3 v3 s3 h3 => ?_⟩
    exact ⟨sv, v3, shD l (shp l t), rfl, sh_same (by omega) h.r8 h.wf, sh_dp (ShAt.keep (Keep.of (s2.trans s3)) hsv), sh_dp h3, fun H4 s4 => kq H4 (((s1.trans s2).trans s3).trans s4)⟩
def sp_law_renamed : Sp := fun vs H Q _ => ∃ (v : V) (room l : Nat) (t : Tr l) (S : List (Int × Pg)), vs = [v] ∧ SndAt H v room l t S ∧
  ∀ (H' : Hp) (v' : V) (S' : List (Int × Pg)), Same H H' → SndAt H' v' room l (renT (fun n => 1000001 - n) l t) S' → Q v' H'
theorem ok_law_renamed (T : TX K mg) : FnOk P w K mg base CX0 1 (He.ga K "_law_renamed") T.fd_law_renamed ["tree"] sp_law_renamed := by
  refine T.F_law_renamed.ok sc_law_renamed (fun vs H Q E h => ?_) (fun cdv A outer st H vs Q E hr h => ?_)
  · obtain ⟨v, room, l, t, S, rfl, _⟩ := h
    rfl
  · obtain ⟨v, room, l, t, S, rfl, ⟨hT, a, b, o, xs, rfl, ha, hb, ho, hx⟩, kq⟩ := h
    refine ⟨_, PSs.nox (pss_cons (ps_set (i := 1) sc_law_renamed.nd rfl (Or.inr rfl) (pe_op op_add (pe_op op_powW pe_int pe_int) pe_int))
 (pss_cons (ps_set (i := 2) sc_law_renamed.nd rfl (Or.inl rfl) (pe_lst pa_nil))
 (pss_cons (ps_for PassesOwn.never rfl (pi_tup (pe_ix ix_tup (pv 0) pe_int (fun _ _ => rfl))) (pg_tup rfl (pgs_cons (pg_name (i := 3) sc_law_renamed.nd rfl (Or.inl rfl)) (pgs_cons (pg_name (i := 4) sc_law_renamed.nd rfl (Or.inl rfl)) pgs_nil)))
 (pss_cons (ps_asg (pv 4) (pg_tup rfl (pgs_cons (pg_name (i := 5) sc_law_renamed.nd rfl (Or.inl rfl)) (pgs_cons (pg_name (i := 6) sc_law_renamed.nd rfl (Or.inl rfl)) (pgs_cons (pg_name (i := 7) sc_law_renamed.nd rfl (Or.inl rfl)) pgs_nil)))))
 (pss_cons (ps_if (pt_cmpR op_eq (pv 5) pe_str (nomark _))
 (pss_one (ps_set (i := 7) sc_law_renamed.nd rfl (Or.inl rfl) (pe_op op_mulW (pe_op op_sub (pv 1) (pv 7)) (pe_callTy call_int1 rfl T.n_int (by decide +kernel) (pa_cons (pe_cmpR op_gt (pv 7) pe_int (nomark _)) pa_nil)))))
 (pss_one (ps_set (i := 7) sc_law_renamed.nd rfl (Or.inl rfl) (pe_callTy RU.call_tupS rfl T.n_tuple (by decide +kernel) (pa_cons (pe_lc (own := [("kid", 8)]) (g := gName 8) (tt := tYes) rfl sc_law_renamed.nd (pi_tup (pv 7)) (blkOk_by (own := [("kid", 8)]) (N := ["tree", "top", "pages", "number", "page", "word", "some", "others", "kid"]) (sc := defScope s_law_renamed) (by decide +kernel)) (fun _ _ _ _ _ => (pg_name (i := 8) sc_law_renamed.nd rfl (Or.inl rfl))) (fun _ _ _ _ _ => pts_nil) (fun _ _ _ _ _ => (pe_op op_sub (pv 1) (pv 8)))) pa_nil)))))
 (pss_one (ps_expr (pe_bm PySem.F.plainAttrs_list PySem.F.slot_list_append PySem.F.type_list_append mt_append (pv 2) (pa_cons (pe_tup (pa_cons (pe_op op_sub (pv 1) (pv 3)) (pa_cons (pe_tup (pa_cons (pv 5) (pa_cons (pv 6) (pa_cons (pv 7) pa_nil)))) pa_nil))) pa_nil)))))))
 (pss_one (ps_ret (pe_tup (pa_cons (pe_ix ix_tup (pv 0) pe_int (fun _ _ => rfl)) (pa_cons (pe_op op_sub (pv 1) (pe_ix ix_tup (pv 0) pe_int (fun _ _ => rfl))) (pa_cons (pe_callTy RU.call_tupS rfl T.n_tuple (by decide +kernel) (pa_cons (pe_callB HS.cr_sortedRow rfl T.n_sorted (by decide +kernel) (pa_cons (pv 2) pa_nil)) pa_nil)) pa_nil))))))))), ?_⟩
    have few := tree_few hT
    refine ⟨_, _, rfl, rfl, powW_of (a := 4) (by decide) (by decide) (by decide) (by decide), _, _, rfl, rfl, ?_⟩
    have e10 : (10 : Int) ^ (6 : Int).toNat + 1 = 1000001 := by decide
    refine ⟨Nat.zero_le _, fun R hR0 => ?_⟩
    have s1 : Same H (upd H R (.lst [])) := same_new hR0
    have hR1 : upd H R (.lst []) R = some (.lst (([] : List (Addr × Int × V)).map fun z => V.ref z.1)) := upd_same
    generalize upd H R (.lst []) = H1 at s1 hR1
    refine ⟨_, rfl, a, _, 2, _, rfl, rfl, SqT.of (s1 _ _ ha), rfl, b, rfl, ⟨_, sqF (s1 _ _ hb)⟩, ?_⟩
    obtain ⟨f, hf⟩ : ∃ f : Int → Int, f = fun n => 1000001 - n := ⟨_, rfl⟩
    rw [← hf] at kq
    refine for_tup (xs := xs) (fun i σ H' => ∃ v3 v4 v5 v6 v7, σ = [some (.ref a), some (.int ((10 : Int) ^ (6 : Int).toNat + 1)), some (.ref R), v3, v4, v5, v6, v7, none] ∧ But R H1 H' ∧ ∃ zs : List (Addr × Int × V), H' R = some (.lst (zs.map fun z => V.ref z.1)) ∧ Paired (RwAt f H') zs (S.take i)) ⟨_, _, _, _, _, rfl, But.refl R H1, [], hR1, .nil⟩ (fun i σ H' _ z => ?_) ?_ ?_
    · obtain ⟨_, _, _, _, _, _, b2, _⟩ := z
      exact sqF (b2 _ _ (ne_of_none hb hR0) (s1 _ _ hb))
    · rintro i x σ H2 hxi ⟨v3, v4, v5, v6, v7, rfl, b2, zs, hR2, hz⟩
      obtain ⟨q, hq, hxq⟩ := pget1 hx hxi
      have k2 : Keep H H2 := ⟨fun c u tu e => b2 _ _ (ne_of_none e hR0) (s1 _ _ e)⟩
      have mq : q.1 ∈ S.map (·.1) := List.mem_map_of_mem (List.mem_of_getElem? hq)
      obtain ⟨tx, pv, rfl, htx, hpv⟩ := hxq.keep k2
      have few2 : zs.length ≤ 1000 := by
        have z := hz.length
        rw [List.length_take] at z
        omega
      have eS : lkp S q.1 = some q.2 := mem_lkp (hT.perm.nodup_iff.mpr hT.nodup) (List.mem_of_getElem? hq)
      have nq : q.1 ∈ nums l t := hT.perm.mem_iff.mp mq
      have rg := hT.range q.1 nq
      refine ⟨tx, _, rfl, SqT.of htx, rfl, _, _, rfl, _, _, rfl, rfl, ?_⟩
      have fin : ∀ (H3 : Hp) (pw : V), Same H2 H3 → PgAt H3 pw (renPg f q.2) → ∀ (H4 : Hp) (r : Addr), H3 r = none → H4 = upd H3 r (.tup [.int ((10 : Int) ^ (6 : Int).toNat + 1 - q.1), pw]) → But R H1 (upd H4 R (.lst (zs.map (fun z => V.ref z.1) ++ [.ref r]))) ∧ ∃ zs' : List (Addr × Int × V), upd H4 R (.lst (zs.map (fun z => V.ref z.1) ++ [.ref r])) R = some (.lst (zs'.map fun z => V.ref z.1)) ∧ Paired (RwAt f (upd H4 R (.lst (zs.map (fun z => V.ref z.1) ++ [.ref r])))) zs' (S.take (i + 1)) := by
        intro H3 pw s3 hpw H4 r nr e4
        rw [e10] at e4
        subst e4
        have s4 : Same H3 (upd H3 r (.tup [.int (1000001 - q.1), pw])) := same_new nr
        have hr : upd H3 r (.tup [.int (1000001 - q.1), pw]) r = some (.tup [.int (1000001 - q.1), pw]) := upd_same
        generalize upd H3 r (.tup [.int (1000001 - q.1), pw]) = H4 at s4 hr
        have hR4 := s4 _ _ (s3 _ _ hR2)
        have k5 : Keep H4 (upd H4 R (.lst (zs.map (fun z => V.ref z.1) ++ [.ref r]))) := (Keep.refl H4).upd fun u e => by
          rw [hR4] at e
          cases e
          rfl
        refine ⟨But.upd (But.trans b2 (But.of (s3.trans s4))), zs ++ [(r, 1000001 - q.1, pw)], ?_, ?_⟩
        · rw [upd_same, List.map_append]
          rfl
        · rw [take_more hq]
          exact paired_snoc ⟨by rw [hf], k5 _ _ hr, (hpw.keep (Keep.of s4)).keep k5⟩ (paired_imp (fun _ _ r => RwAt.keep (((Keep.of s3).trans (Keep.of s4)).trans k5) r) hz)
      cases hg : q.2 with
      | leaf ps nx =>
        rw [hg] at hpv eS fin
        obtain ⟨pt, pq, rfl, hpt, hpq⟩ := hpv
        refine ⟨_, rfl, pt, _, rfl, SqT.of hpt, rfl, _, _, rfl, _, _, rfl, _, _, rfl, rfl, ?_⟩
        refine ⟨_, rfl, rfl, _, rfl, iteT ?_⟩
        have hnx := next_in hT eS nq
        have n0 : 0 ≤ nx ∧ nx ≤ 1000000 := by
          rcases hnx with rfl | m
          · exact ⟨Int.le_refl _, by decide⟩
          · have := hT.range nx m
            omega
        refine ⟨_, rfl, _, rfl, _, _, rfl, rfl, _, rfl, _, _, rfl, rfl, .inr ⟨_, rfl, _, _, rfl, rfl, ?_, ?_⟩⟩
        · rw [e10]
          refine wide_mul (a := 30) (b := 30) (by omega) ?_ (by decide) (by decide) (by decide)
          split <;> omega
        have ev : ((10 : Int) ^ (6 : Int).toNat + 1 - nx) * (if decide (0 < nx) = true then 1 else 0) = (if nx = 0 then 0 else f nx) := by
          rw [e10, hf]
          by_cases c : nx = 0
          · rw [if_pos c, if_neg (by rw [decide_eq_false (by omega)]; exact Bool.false_ne_true), Int.mul_zero]
          · rw [if_neg c, if_pos (decide_eq_true (by omega)), Int.mul_one]
        refine ⟨_, rfl, .inl ⟨rfl, _, SqL.of hR2⟩, _, rfl, _, rfl, _, _, rfl, rfl, _, rfl, _, rfl, _, rfl, by show 3 ≤ sizeLine; decide, fun pn hpn => ?_⟩
        have s3 : Same H2 (upd H2 pn (.tup [.str "leaf", .ref pq, .int (((10 : Int) ^ (6 : Int).toNat + 1 - nx) * (if decide (0 < nx) = true then 1 else 0))])) := same_new hpn
        have hpn3 : upd H2 pn (.tup [.str "leaf", .ref pq, .int (((10 : Int) ^ (6 : Int).toNat + 1 - nx) * (if decide (0 < nx) = true then 1 else 0))]) pn = some (.tup [.str "leaf", .ref pq, .int (((10 : Int) ^ (6 : Int).toNat + 1 - nx) * (if decide (0 < nx) = true then 1 else 0))]) := upd_same
        generalize upd H2 pn (.tup [.str "leaf", .ref pq, .int (((10 : Int) ^ (6 : Int).toNat + 1 - nx) * (if decide (0 < nx) = true then 1 else 0))]) = H3 at s3 hpn3
        rw [ev] at hpn3
        have hp3 : PgAt H3 (.ref pn) (renPg f (.leaf ps nx)) := ⟨pn, pq, rfl, hpn3, PrT.keep (Keep.of s3) hpq⟩
        refine ⟨by show 2 ≤ sizeLine; decide, fun r hr => ?_⟩
        refine ⟨R, _, _, rfl, rfl, same_new hr _ _ (s3 _ _ hR2), ?_, ?_⟩
        · rw [List.length_map]
          exact Nat.lt_of_le_of_lt few2 (by decide)
        · obtain ⟨r1, r2⟩ := fin H3 (.ref pn) s3 hp3 _ r hr rfl
          exact ⟨_, _, _, _, _, rfl, r1, r2⟩
      | node ks kd =>
        rw [hg] at hpv eS fin
        obtain ⟨pt, pq1, pq2, rfl, hpt, hpq1, hpq2⟩ := hpv
        refine ⟨_, rfl, pt, _, rfl, SqT.of hpt, rfl, _, _, rfl, _, _, rfl, _, _, rfl, rfl, ?_⟩
        refine ⟨_, rfl, rfl, _, rfl, iteF ?_⟩
        have hkd := kids_in eS hT.laid nq
        have kdl : kd.length ≤ 1000 := by
          have z := (Tree.pgOk hT q (List.mem_of_getElem? hq)).2.2
          rw [hg] at z
          have := z.2.2.2.2
          omega
        refine ⟨_, rfl, pq2, rfl, ⟨_, hpq2.sq⟩, fun L hL => ?_⟩
        refine lc_it (walk_tup (xs := kd.map V.int)) (fun j H' => Same H2 H' ∧ H' L = some (.lst (((kd.take j).map f).map V.int))) ⟨same_new hL, upd_same⟩ (fun j H' _ z => (FzT.same z.1 hpq2).sq) ?_ ?_
        · rintro j x H5 H6 hj ⟨s5, hL5⟩ ⟨rfl, hx⟩
          obtain ⟨kn, hkn, rfl⟩ := map_at hx
          refine ⟨rfl, ?_⟩
          dsimp only [tYes]
          rw [if_pos rfl]
          refine ⟨_, rfl, _, rfl, _, _, rfl, rfl, _, hL5, ?_, same_upd s5 hL, ?_⟩
          · rw [List.length_map, List.length_map, List.length_take]
            exact Nat.lt_of_le_of_lt (by omega : _ ≤ 1000) (by decide)
          · rw [upd_same, take_more hkn]
            simp only [List.map_append, List.map_cons, List.map_nil]
            rw [hf]
            show some (HO.lst (_ ++ [V.int ((10 : Int) ^ (6 : Int).toNat + 1 - kn)])) = _
            rw [e10]
        · rintro H5 ⟨s5, hL5⟩
          rw [List.take_of_length_le (by rw [List.length_map]; exact Nat.le_refl _)] at hL5
          refine ⟨L, _, rfl, SqL.of hL5, fun c H6 s6 nc hc => ?_⟩
          have s26 := s5.trans s6
          refine ⟨_, rfl, .inl ⟨rfl, _, SqL.of (s26 _ _ hR2)⟩, _, rfl, _, rfl, _, _, rfl, rfl, _, rfl, _, rfl, _, rfl, by show 3 ≤ sizeLine; decide, fun pn hpn => ?_⟩
          have s7 : Same H6 (upd H6 pn (.tup [.str "node", .ref pq1, .ref c])) := same_new hpn
          have hpn3 : upd H6 pn (.tup [.str "node", .ref pq1, .ref c]) pn = some (.tup [.str "node", .ref pq1, .ref c]) := upd_same
          generalize upd H6 pn (.tup [.str "node", .ref pq1, .ref c]) = H3 at s7 hpn3
          have s3 := s26.trans s7
          have hp3 : PgAt H3 (.ref pn) (renPg f (.node ks kd)) := ⟨pn, pq1, c, rfl, hpn3, s3 _ _ hpq1, FzT.same s7 hc⟩
          refine ⟨by show 2 ≤ sizeLine; decide, fun r hr => ?_⟩
          refine ⟨R, _, _, rfl, rfl, same_new hr _ _ (s3 _ _ hR2), ?_, ?_⟩
          · rw [List.length_map]
            exact Nat.lt_of_le_of_lt few2 (by decide)
          · obtain ⟨r1, r2⟩ := fin H3 (.ref pn) s3 hp3 _ r hr rfl
            exact ⟨_, _, _, _, _, rfl, r1, r2⟩
    · rintro σ H2 ⟨v3, v4, v5, v6, v7, rfl, b2, zs, hR2, hz⟩
      rw [hx.length, List.take_length] at hz
      have s02 : Same H H2 := fun c o e => b2 _ _ (ne_of_none e hR0) (s1 _ _ e)
      have inj : ∀ a ∈ nums l t, ∀ b ∈ nums l t, f a = f b → a = b := fun a _ b _ e => by
        rw [hf] at e
        have e' : (1000001 : Int) - a = 1000001 - b := e
        omega
      have rgf : ∀ a ∈ nums l t, 1 ≤ f a ∧ f a ≤ 1000000 := fun a ha => by
        have := hT.range a ha
        rw [hf]
        show 1 ≤ 1000001 - a ∧ 1000001 - a ≤ 1000000
        omega
      have ezk : zs.map (fun z => z.2.1) = S.map fun q => f q.1 := by
        have go : ∀ {zs : List (Addr × Int × V)} {S : List (Int × Pg)}, Paired (RwAt f H2) zs S → zs.map (fun z => z.2.1) = S.map fun q => f q.1 := by
          intro zs S h
          induction h with
          | nil => rfl
          | cons r _ ih => rw [List.map_cons, List.map_cons, ih, r.1]
        exact go hz
      have ndz : (zs.map fun z => z.2.1).Nodup := by
        rw [ezk, List.nodup_iff_pairwise_ne, List.pairwise_map]
        have nS := List.pairwise_map.mp (List.nodup_iff_pairwise_ne.mp (hT.perm.nodup_iff.mpr hT.nodup))
        exact List.Pairwise.imp_of_mem (fun {x z} hx' hz' ne e => ne (inj x.1 (hT.perm.mem_iff.mp (List.mem_map_of_mem hx')) z.1 (hT.perm.mem_iff.mp (List.mem_map_of_mem hz')) e)) nS
      refine ⟨_, rfl, a, _, 0, _, rfl, rfl, SqT.of (s02 _ _ ha), rfl, _, rfl, _, rfl, a, _, 1, _, rfl, rfl, SqT.of (s02 _ _ ha), rfl, _, _, rfl, rfl, ?_⟩
      refine ⟨_, rfl, R, zs, rfl, SqL.of hR2, fun z hzm => ?_, ndz, fun H3 L qs s3 nL pq srt hL3 => ?_⟩
      · obtain ⟨j, hj⟩ := List.mem_iff_getElem?.mp hzm
        have go : ∀ {zs : List (Addr × Int × V)} {S : List (Int × Pg)}, Paired (RwAt f H2) zs S → ∀ z ∈ zs, H2 z.1 = some (.tup [.int z.2.1, z.2.2]) := by
          intro zs S h
          induction h with
          | nil => exact fun _ h => nomatch h
          | cons r _ ih =>
            intro z hz
            rcases List.mem_cons.mp hz with rfl | hz
            · exact r.2.1
            · exact ih z hz
        exact go hz z hzm
      refine ⟨L, _, rfl, SqL.of hL3, fun c H4 s4 nc hc => ⟨by show 3 ≤ sizeLine; decide, fun out hout => ?_⟩⟩
      have s24 : Same H2 H4 := Same.trans s3 s4
      have s5 : Same H4 (upd H4 out (.tup [.int room, .int ((10 : Int) ^ (6 : Int).toNat + 1 - num l t), .ref c])) := same_new hout
      have ho5 : upd H4 out (.tup [.int room, .int ((10 : Int) ^ (6 : Int).toNat + 1 - num l t), .ref c]) out = some (.tup [.int room, .int ((10 : Int) ^ (6 : Int).toNat + 1 - num l t), .ref c]) := upd_same
      generalize upd H4 out (.tup [.int room, .int ((10 : Int) ^ (6 : Int).toNat + 1 - num l t), .ref c]) = H5 at s5 ho5
      have s25 := s24.trans s5
      -- the rows with their pages
      obtain ⟨ws, pw, ew⟩ := perm_lift (fun w : (Addr × Int × V) × (Int × Pg) => w.1) pq (zs.zip S) (List.map_fst_zip (by rw [hz.length]; exact Nat.le_refl _))
      have wok : ∀ w ∈ ws, RwAt f H5 w.1 w.2 := fun w hw => by
        have go : ∀ {zs : List (Addr × Int × V)} {S : List (Int × Pg)}, Paired (RwAt f H2) zs S → ∀ w ∈ zs.zip S, RwAt f H2 w.1 w.2 := by
          intro zs S h
          induction h with
          | nil => exact fun _ h => nomatch h
          | cons r _ ih =>
            intro z hz
            rw [List.zip_cons_cons] at hz
            rcases List.mem_cons.mp hz with rfl | hz
            · exact r
            · exact ih z hz
        exact RwAt.keep (Keep.of s25) (go hz w (pw.mem_iff.mp hw))
      have p' : (ws.map fun w => (f w.2.1, renPg f w.2.2)).Perm (S.map fun q => (f q.1, renPg f q.2)) := by
        have z := (pw.map (fun w => w.2)).map fun q : Int × Pg => (f q.1, renPg f q.2)
        rw [List.map_map, List.map_snd_zip (by rw [hz.length]; exact Nat.le_refl _)] at z
        exact z
      have srt' : (ws.map fun w => (f w.2.1, renPg f w.2.2)).Pairwise fun a b => a.1 < b.1 := by
        rw [List.pairwise_map]
        rw [← ew, List.pairwise_map] at srt
        refine List.Pairwise.imp_of_mem (fun {x z} hx hz h => ?_) srt
        rw [(wok x hx).1, (wok z hz).1] at h
        exact h
      obtain ⟨oc, hoc, hod⟩ := FzT.same s5 hc
      refine kq H5 (.ref out) _ (s02.trans s25) ⟨ren_tree hT inj rgf p' srt', out, c, oc, _, rfl, ?_, hoc, hod, ?_⟩
      · rw [ren_num, ho5, e10, hf]
      · rw [← ew, List.map_map]
        have go : ∀ {ws : List ((Addr × Int × V) × (Int × Pg))}, (∀ w ∈ ws, RwAt f H5 w.1 w.2) → Paired (NumAt H5) (ws.map ((fun z : Addr × Int × V => V.ref z.1) ∘ fun w => w.1)) (ws.map fun w => (f w.2.1, renPg f w.2.2)) := by
          intro ws h
          induction ws with
          | nil => exact .nil
          | cons w ws ih =>
            have r := h w (List.mem_cons_self ..)
            refine .cons ⟨w.1.1, w.1.2.2, rfl, ?_, r.2.2⟩ (ih fun x hx => h x (List.mem_cons_of_mem _ hx))
            show H5 w.1.1 = some (.tup [.int (f w.2.1), w.1.2.2])
            rw [← r.1]
            exact r.2.1
        exact go wok
end
end K29

namespace K29
open PySem PySem.Spec PyProof.Rows L2 RZ HX TR
/-- kids as few as can be -/
def Tight (room : Nat) : (l : Nat) → Bool → Sh l → Prop
  | 0, _, _ => True
  | l + 1, top, s => s.ks.length = loS room (l + 1) top ∧ ∀ k ∈ s.ks, Tight room l false k
theorem tight_pgs : ∀ {l : Nat} {s : Sh l}, Tight 3 l false s → pgsS l s + 1 = 2 ^ (l + 1)
  | 0, _, _ => rfl
  | l + 1, s, ⟨h1, h2⟩ => by
    have e : loS 3 (l + 1) false = 2 := rfl
    rw [e] at h1
    match hs : s.ks, h1 with
    | [a, b], _ => 
      have ea := tight_pgs (h2 a (by rw [hs]; exact List.mem_cons_self ..))
      have eb := tight_pgs (h2 b (by rw [hs]; exact List.mem_cons_of_mem _ (List.mem_cons_self ..)))
      have e1 : pgsS (l + 1) s = 1 + (s.ks.map (pgsS l)).sum := rfl
      rw [e1, hs, Nat.pow_succ]
      simp only [List.map_cons, List.map_nil, List.sum_cons, List.sum_nil]
      omega
theorem tight_few {room : Nat} (r3 : 3 ≤ room) (r4 : room ≤ 4) : ∀ {l : Nat} {top : Bool} {s : Sh l}, Tight room l top s → pgsS l s + 1 = 2 ^ (l + 1)
  | 0, _, _, _ => rfl
  | l + 1, top, s, ⟨h1, h2⟩ => by
    have e : loS room (l + 1) top = 2 := by
      cases top with
      | true => rfl
      | false =>
        show (room + 1) / 2 = 2
        omega
    rw [e] at h1
    match hs : s.ks, h1 with
    | [a, b], _ =>
      have ea := tight_few r3 r4 (h2 a (by rw [hs]; exact List.mem_cons_self ..))
      have eb := tight_few r3 r4 (h2 b (by rw [hs]; exact List.mem_cons_of_mem _ (List.mem_cons_self ..)))
      have e1 : pgsS (l + 1) s = 1 + (s.ks.map (pgsS l)).sum := rfl
      rw [e1, hs, Nat.pow_succ]
      simp only [List.map_cons, List.map_nil, List.sum_cons, List.sum_nil]
      omega
theorem cnt_pgs {room : Nat} : ∀ {l : Nat} {top : Bool} {s : Sh l}, WfSh room l top s → cntS l s ≤ room * pgsS l s
  | 0, _, s, h => by
    have := h.2
    show s.n ≤ room * 1
    omega
  | l + 1, _, s, h => by
    obtain ⟨_, _, h3⟩ := h
    have go : ∀ ks : List (Sh l), (∀ k ∈ ks, WfSh room l false k) → (ks.map (cntS l)).sum ≤ room * (ks.map (pgsS l)).sum := by
      intro ks
      induction ks with
      | nil => intro _; exact Nat.le_refl _
      | cons k ks ih =>
        intro hk
        have a := cnt_pgs (hk k (List.mem_cons_self ..))
        have b := ih fun x hx => hk x (List.mem_cons_of_mem _ hx)
        rw [List.map_cons, List.map_cons, List.sum_cons, List.sum_cons, Nat.mul_add]
        omega
    have z := go s.ks h3
    show (s.ks.map (cntS l)).sum ≤ room * (1 + (s.ks.map (pgsS l)).sum)
    rw [Nat.mul_add]
    omega
section
variable {P : Program} {w : World} {K : PySem.W.Frag} {mg : Str → Option Value} {base : Heap}
def sp_law_shape_w (N : Nat) : Sp := fun vs H Q _ => ∃ (p : Addr) (room l wide : Nat) (top : Bool) (B : Int), vs = [.ref p, .int (room : Int), .int ((l + 1 : Nat) : Int), .bl top, .int (wide : Int)] ∧ l < N ∧ 3 ≤ room ∧ room ≤ 8 ∧ wide ≤ 1000 ∧ PotOk H p B ∧ B + cS room l < 2 ^ 39 ∧
  ∀ (H' : Hp) (v : V) (s : Sh l), But p H H' → PotOk H' p (B + cS room l) → ShAt H' l v s → WfSh room l top s → (wide = 0 → Tight room l top s) → Q v H'
theorem ok_law_shape_w (T : TX K mg) : ∀ N : Nat, FnOk P w K mg base CX0 (N + 2) (He.ga K "_law_shape") T.fd_law_shape ["pot", "space", "levels", "top", "wide"] (sp_law_shape_w N) := by
  intro N
  induction N with
  | zero =>
    refine T.F_law_shape.ok sc_law_shape (fun vs H Q E h => ?_) (fun cdv A outer st H vs Q E hr h => ?_)
    · obtain ⟨p, room, l, wide, top, B, rfl, _⟩ := h
      rfl
    · obtain ⟨p, room, l, wide, top, B, rfl, h1, _⟩ := h
      omega
  | succ N ih =>
    have G_law_shape := ih
    have b_law_shape := b_law_shape T
    have G_law_take : FnOk P w K mg base CX0 1 (He.ga K "_law_take") T.fd_law_take ["pot", "many"] sp_law_take := ok_law_take T
    have b_law_take := b_law_take T
    refine T.F_law_shape.ok sc_law_shape (fun vs H Q E h => ?_) (fun cdv A outer st H vs Q E hr h => ?_)
    · obtain ⟨p, room, l, wide, top, B, rfl, _⟩ := h
      rfl
    · obtain ⟨p, room, l, wide, top, B, rfl, hl, hr3, hr8, hw, hp, hB, kq⟩ := h
      refine ⟨_, PSs.nox (Evl.pss_cut (ps_set (i := 5) sc_law_shape.nd rfl (Or.inl rfl) (pe_ix ix_list (pe_lst (pa_cons (pe_op op_fdivW (pe_op op_add (pv 1) pe_int) pe_int) (pa_cons (pe_ix ix_list (pe_lst (pa_cons pe_int (pa_cons pe_int pa_nil))) (pe_callTy call_int1 rfl T.n_int (by decide +kernel) (pa_cons (pe_cmpR op_eq (pv 2) pe_int (nomark _)) pa_nil)) (fun _ _ => rfl)) pa_nil))) (pe_callTy call_int1 rfl T.n_int (by decide +kernel) (pa_cons (pv 3) pa_nil)) (fun _ _ => rfl)))
 (pss_cons (ps_if (pt_cmpR op_eq (pv 2) pe_int (nomark _))
 (pss_one (ps_ret (pe_op op_add (pv 5) (pe_call G_law_take (hr.mono (by first | decide | omega)) rfl T.g_law_take T.F_law_take.kp b_law_take .nil pass0 (pa_cons (pv 0) (pa_cons (pe_op op_add (pe_op op_sub (pv 1) (pv 5)) pe_int) pa_nil))))))
 pss_nil)
 (Evl.pss_cut (ps_set (i := 6) sc_law_shape.nd rfl (Or.inl rfl) (pe_op op_add (pv 5) (pe_call G_law_take (hr.mono (by first | decide | omega)) rfl T.g_law_take T.F_law_take.kp b_law_take .nil pass0 (pa_cons (pv 0) (pa_cons (pe_op op_add (pe_callB (call_min2 rfl) rfl T.n_min (by decide +kernel) (pa_cons (pv 4) (pa_cons (pe_op op_sub (pv 1) (pv 5)) pa_nil))) pe_int) pa_nil)))))
 (pss_one (ps_ret (pe_callTy call_tuple_of rfl T.n_tuple (by decide +kernel) (pa_cons (pe_lc (own := [("k", 7)]) (g := gName 7) (tt := tYes) rfl sc_law_shape.nd (pi_range1 rfl T.n_range (pa_cons (pv 6) pa_nil)) (blkOk_by (own := [("k", 7)]) (N := ["pot", "space", "levels", "top", "wide", "least", "many", "k"]) (sc := defScope s_law_shape) (by decide +kernel)) (fun _ _ _ _ _ => (pg_name (i := 7) sc_law_shape.nd rfl (Or.inl rfl))) (fun _ _ _ _ _ => pts_nil) (fun _ _ _ _ _ => (pe_call G_law_shape (hr.mono (by first | decide | omega)) rfl T.g_law_shape T.F_law_shape.kp b_law_shape .nil pass0 (pa_cons (pv 0) (pa_cons (pv 1) (pa_cons (pe_op op_sub (pv 2) pe_int) (pa_cons pe_bl (pa_cons (pv 4) pa_nil)))))))) pa_nil))))))), ?_⟩
      refine ⟨fun σ' H' => σ' = [some (.ref p), some (.int (room : Int)), some (.int ((l + 1 : Nat) : Int)), some (.bl top), some (.int (wide : Int)), some (.int ((loS room l top : Nat) : Int)), none, none] ∧ Same H H', ?_, ?_⟩
      · refine ⟨_, rfl, _, _, rfl, rfl, _, _, rfl, rfl, ⟨by decide, by decide⟩, by show 2 ≤ sizeLine; decide, fun q hq => ?_⟩
        refine ⟨_, rfl, rfl, .inr ⟨_, rfl, ?_⟩⟩
        have hx : ∃ z : Int, atI [V.int 2, V.int 0] (if decide (V.int ((l + 1 : Nat) : Int) = V.int 1) = true then 1 else 0) = some (.int z) ∧ z = ((if l = 0 then 0 else 2 : Nat) : Int) := by
          by_cases e : l = 0
          · subst e
            exact ⟨0, rfl, rfl⟩
          · have e2 : decide (V.int ((l + 1 : Nat) : Int) = V.int 1) = false := decide_eq_false fun z => e (by injection z with z; omega)
            rw [e2]
            exact ⟨2, rfl, by rw [if_neg e]; rfl⟩
        obtain ⟨z, hz1, hz2⟩ := hx
        refine ⟨q, _, _, _, rfl, rfl, SqL.of upd_same, hz1, by show 2 ≤ sizeLine; decide, fun q2 hq2 => ?_⟩
        refine ⟨_, rfl, .inr ⟨_, rfl, ?_⟩⟩
        have hy : atI [V.int (((room : Int) + 1) / 2), V.int z] (if top = true then 1 else 0) = some (.int ((loS room l top : Nat) : Int)) := by
          unfold loS
          cases top with
          | true =>
            rw [if_pos rfl, if_pos rfl, ← hz2]
            rfl
          | false =>
            have ez : ((room : Int) + 1) / 2 = (((room + 1) / 2 : Nat) : Int) := by omega
            rw [ez]
            rfl
        refine ⟨q2, _, _, _, rfl, rfl, SqL.of upd_same, hy, ?_⟩
        exact ⟨rfl, same_upd (same_new hq) (Same.free (same_new hq) hq2)⟩
      · rintro σ' H1 ⟨rfl, s1⟩
        have hp1 := hp.same s1
        have lo_le : loS room l top ≤ room := by unfold loS; split <;> (try split) <;> omega
        refine ⟨_, rfl, rfl, _, rfl, ?_⟩
        by_cases e : l = 0
        · have e2 : decide (V.int ((l + 1 : Nat) : Int) = V.int 1) = true := decide_eq_true (by rw [e]; rfl)
          rw [e2]
          refine iteT ?_
          subst e
          refine ⟨_, rfl, _, rfl, _, rfl, _, rfl, _, _, rfl, rfl, _, _, rfl, rfl, ?_⟩
          refine ⟨p, _, B, rfl, by omega, by omega, hp1, by omega, fun H2 v b2 hp2 l2 u2 => ⟨_, _, rfl, rfl, ?_⟩⟩
          refine kq H2 _ (loS room 0 top + v.toNat : Nat) (fun b o nb z => b2 b o nb (s1 b o z)) hp2 ?_ ⟨by show loS room 0 top ≤ loS room 0 top + v.toNat; omega, by show loS room 0 top + v.toNat ≤ room; omega⟩ (fun _ => True.intro)
          show V.int (((loS room 0 top : Nat) : Int) + v) = V.int ((loS room 0 top + v.toNat : Nat) : Int)
          congr 1
          omega
        · have e2 : decide (V.int ((l + 1 : Nat) : Int) = V.int 1) = false := decide_eq_false fun z => e (by injection z with z; omega)
          rw [e2]
          refine iteF ?_
          obtain ⟨l', rfl⟩ : ∃ l', l = l' + 1 := ⟨l - 1, by omega⟩
          have c1 : 1 ≤ cS room l' := by cases l' <;> (unfold cS; omega)
          have cc : cS room (l' + 1) = 1 + room * cS room l' := rfl
          have rc : 1 ≤ room * cS room l' := Nat.mul_pos (by omega) c1
          refine ⟨fun σ' H' => ∃ m : Nat, σ' = [some (.ref p), some (.int (room : Int)), some (.int ((l' + 1 + 1 : Nat) : Int)), some (.bl top), some (.int (wide : Int)), some (.int ((loS room (l' + 1) top : Nat) : Int)), some (.int (m : Int)), none] ∧ But p H H' ∧
            PotOk H' p (B + 1) ∧ loS room (l' + 1) top ≤ m ∧ m ≤ room ∧ (wide = 0 → m = loS room (l' + 1) top), ?_, ?_⟩
          · refine ⟨_, rfl, _, rfl, _, rfl, _, rfl, _, rfl, _, _, rfl, rfl, _, _, rfl, _, _, rfl, rfl, ?_⟩
            refine ⟨p, _, B, rfl, by split <;> omega, by split <;> omega, hp1, by omega, fun H2 v b2 hp2 l2 u2 => ⟨_, _, rfl, rfl, ?_⟩⟩
            have u3 : v ≤ (room : Int) - ((loS room (l' + 1) top : Nat) : Int) := by split at u2 <;> omega
            refine ⟨loS room (l' + 1) top + v.toNat, ?_, fun b o nb z => b2 b o nb (s1 b o z), hp2, by omega, by omega, fun e => by subst e; split at u2 <;> omega⟩
            show [some (V.ref p), some (V.int (room : Int)), some (V.int ((l' + 1 + 1 : Nat) : Int)), some (V.bl top), some (V.int (wide : Int)), some (V.int ((loS room (l' + 1) top : Nat) : Int)), some (V.int (((loS room (l' + 1) top : Nat) : Int) + v)), none] = _
            rw [show ((loS room (l' + 1) top : Nat) : Int) + v = ((loS room (l' + 1) top + v.toNat : Nat) : Int) by omega]
          rintro σ' H2 ⟨m, rfl, bB, hp2, lom, mle, mt⟩
          refine ⟨_, rfl, _, rfl, by omega, by omega, fun D hD => ?_⟩
          rw [show ((m : Int)).toNat = m by omega]
          have npD : p ≠ D := hp2.ne hD
          have mono : ∀ i : Nat, i ≤ m → B + 1 + ((i * cS room l' : Nat) : Int) + (cS room l' : Int) * ((if i < m then 1 else 0 : Nat) : Int) ≤ B + cS room (l' + 1) := by
            intro i hi
            have h1 : (i + (if i < m then 1 else 0)) * cS room l' ≤ room * cS room l' := Nat.mul_le_mul_right _ (by split <;> omega)
            rw [Nat.add_mul] at h1
            have e3 : ((i * cS room l' + (if i < m then 1 else 0) * cS room l' : Nat) : Int) ≤ ((room * cS room l' : Nat) : Int) := by omega
            have e4 : (cS room l' : Int) * ((if i < m then 1 else 0 : Nat) : Int) = (((if i < m then 1 else 0) * cS room l' : Nat) : Int) := by
              rw [Int.mul_comm]
              rfl
            rw [e4, cc]
            omega
          refine lc_it walk_range (fun i H' => But p H2 H' ∧ PotOk H' p (B + 1 + ((i * cS room l' : Nat) : Int)) ∧ ∃ (xs : List V) (ks : List (Sh l')), H' D = some (.lst xs) ∧ xs.length = i ∧ ks.length = i ∧ Paired (ShAt H' l') xs ks ∧ (∀ k ∈ ks, WfSh room l' false k) ∧ (wide = 0 → ∀ k ∈ ks, Tight room l' false k))
            ⟨(But.refl p H2).new hD, by rw [Nat.zero_mul]; exact (hp2.le (by omega)).new hD, [], [], upd_same, rfl, rfl, .nil, (fun k hk => nomatch hk), (fun _ k hk => nomatch hk)⟩ (fun _ _ _ _ => trivial) ?_ ?_
          · rintro i x H3 H4 hi ⟨b3, hp3, xs, ks, hD3, hxl, hkl, hpr, hwf, htg⟩ ⟨rfl, rfl⟩
            have mi := mono i (by omega)
            rw [if_pos hi] at mi
            refine ⟨rfl, ?_⟩
            dsimp only [tYes]
            rw [if_pos rfl]
            refine ⟨_, rfl, _, rfl, _, rfl, _, _, rfl, rfl, _, rfl, ?_⟩
            refine ⟨p, room, l', wide, false, B + 1 + ((i * cS room l' : Nat) : Int), ?_, by omega, hr3, hr8, hw, hp3, by omega, fun H5 v5 s5 b5 hp5 hs5 hw5 ht5 => ?_⟩
            · show [V.ref p, V.int (room : Int), V.int ((((l' + 1) + 1 : Nat) : Int) - 1), V.bl false, V.int (wide : Int)] = _
              rw [show (((l' + 1) + 1 : Nat) : Int) - 1 = ((l' + 1 : Nat) : Int) by omega]
            have k5 : Keep H4 H5 := hp3.keep b5
            have hD5 := b5 _ _ npD.symm hD3
            have tD : ∀ u, H5 D = some u → tpb u = false := fun u z => by
              rw [hD5] at z
              cases z
              rfl
            have k6 : Keep H5 (upd H5 D (.lst (xs ++ [v5]))) := (Keep.refl H5).upd tD
            refine ⟨xs, hD5, ?_, fun b o nb z => ?_, ?_, xs ++ [v5], ks ++ [s5], upd_same, by rw [List.length_append, hxl]; rfl, by rw [List.length_append, hkl]; rfl, ?_, ?_, fun e k hk => (List.mem_append.mp hk).elim (htg e k) (fun z => by obtain rfl := List.mem_singleton.mp z; exact ht5 e)⟩
            · rw [hxl]
              exact Nat.lt_of_le_of_lt (by omega : i ≤ 1000) (by decide)
            · rw [upd_ne (ne_of_none z hD)]
              exact b5 b o nb (b3 b o nb z)
            · have hp6 : PotOk (upd H5 D (.lst (xs ++ [v5]))) p (B + 1 + ((i * cS room l' : Nat) : Int) + cS room l') := by
                obtain ⟨x, y, c, h1, r⟩ := hp5
                exact ⟨x, y, c, by rw [upd_ne npD]; exact h1, r⟩
              refine hp6.le ?_
              rw [Nat.succ_mul]
              omega
            · exact paired_snoc (hs5.keep k6) (paired_imp (fun _ _ r => (ShAt.keep k5 r).keep k6) hpr)
            · intro k hk
              rcases List.mem_append.mp hk with hk | hk
              · exact hwf k hk
              · obtain rfl := List.mem_singleton.mp hk
                exact hw5
          · rintro H3 ⟨b3, hp3, xs, ks, hD3, hxl, hkl, hpr, hwf, htg⟩
            refine ⟨D, _, rfl, .inl ⟨SqL.of hD3, fun q hq => ?_⟩⟩
            have mi := mono m (by omega)
            rw [if_neg (by omega)] at mi
            refine kq _ (.ref q) ks (fun b o nb z => ?_) ((hp3.new hq).le (by omega)) ⟨q, xs, rfl, upd_same, paired_imp (fun _ _ r => ShAt.keep (Keep.of (same_new hq)) r) hpr⟩ ⟨?_, ?_, hwf⟩ (fun e => ⟨(show ks.length = _ from hkl.trans (mt e)), htg e⟩)
            · have z3 := b3 b o nb (bB b o nb z)
              rw [upd_ne (ne_of_none z3 hq)]
              exact z3
            · show loS room (l' + 1) top ≤ ks.length
              omega
            · show ks.length ≤ room
              omega
end
section
variable {P : Program} {w : World} {K : PySem.W.Frag} {mg : Str → Option Value} {base : Heap}
def sp_law_tree_w : Sp := fun vs H Q _ => ∃ (p : Addr) (room l wide : Nat) (B : Int), vs = [.ref p, .int (room : Int), .int ((l + 1 : Nat) : Int), .int (wide : Int)] ∧ l < 6 ∧ 3 ≤ room ∧ room ≤ 8 ∧ wide ≤ 1000 ∧ (cS room l ≤ 600 ∨ wide = 0 ∧ room ≤ 4) ∧ PotOk H p B ∧ B < 2 ^ 38 ∧
  ∀ (H' : Hp) (v : V) (t : Tr l) (S : List (Int × Pg)), But p H H' → PotOk H' p (B + 200000) → Tree room l t S → TreeAt H' v room (num l t) S → Q v H'
theorem ok_law_tree_w (T : TX K mg) : FnOk P w K mg base CX0 9 (He.ga K "_law_tree") T.fd_law_tree ["pot", "space", "levels", "wide"] sp_law_tree_w := by
  have G_law_take : FnOk P w K mg base CX0 1 (He.ga K "_law_take") T.fd_law_take ["pot", "many"] sp_law_take := ok_law_take T
  have b_law_take := b_law_take T
  have G_law_shape : FnOk P w K mg base CX0 8 (He.ga K "_law_shape") T.fd_law_shape ["pot", "space", "levels", "top", "wide"] (sp_law_shape_w 6) := ok_law_shape_w T 6
  have b_law_shape := b_law_shape T
  have G_law_pages : FnOk P w K mg base CX0 7 (He.ga K "_law_pages") T.fd_law_pages ["shape"] (sp_law_pages 6) := ok_law_pages T 6
  have b_law_pages := b_law_pages T
  have G_law_many : FnOk P w K mg base CX0 7 (He.ga K "_law_many") T.fd_law_many ["shape"] (sp_law_many 6) := ok_law_many T 6
  have b_law_many := b_law_many T
  have G_law_pairs : FnOk P w K mg base CX0 2 (He.ga K "_law_pairs") T.fd_law_pairs ["pot", "many"] sp_law_pairs := ok_law_pairs T
  have b_law_pairs := b_law_pairs T
  have G_law_laid : FnOk P w K mg base CX0 8 (He.ga K "_law_laid") T.fd_law_laid ["pot", "shape", "rest", "pages"] (sp_law_laid 6) := ok_law_laid T 6
  have b_law_laid := b_law_laid T
  have G_law_leaves : FnOk P w K mg base CX0 7 (He.ga K "_law_leaves") T.fd_law_leaves ["pages", "number"] (sp_law_leaves 6) := ok_law_leaves T 6
  have b_law_leaves := b_law_leaves T
  refine T.F_law_tree.ok sc_law_tree (fun vs H Q E h => ?_) (fun cdv A outer st H vs Q E hr h => ?_)
  · obtain ⟨p, room, l, wide, B, rfl, _⟩ := h
    rfl
  · obtain ⟨p, room, l, wide, B, rfl, hl, hr3, hr8, hw, hcs0, hp, hB, kq⟩ := h
    have hcs : cS room l ≤ 100000 := by
      have z : ∀ r : Fin 9, ∀ k : Fin 6, cS r.1 k.1 ≤ 100000 := by decide
      exact z ⟨room, by omega⟩ ⟨l, by omega⟩
    refine ⟨_, PSs.nox (pss_cons (ps_set (i := 4) sc_law_tree.nd rfl (Or.inl rfl) (pe_call G_law_shape (hr.mono (by first | decide | omega)) rfl T.g_law_shape T.F_law_shape.kp b_law_shape .nil pass0 (pa_cons (pv 0) (pa_cons (pv 1) (pa_cons (pv 2) (pa_cons pe_bl (pa_cons (pv 3) pa_nil)))))))
 (Evl.pss_cut (ps_set (i := 5) sc_law_tree.nd rfl (Or.inl rfl) (pe_op op_add (pe_call G_law_pages (hr.mono (by first | decide | omega)) rfl T.g_law_pages T.F_law_pages.kp b_law_pages .nil pass0 (pa_cons (pv 4) pa_nil)) (pe_call G_law_take (hr.mono (by first | decide | omega)) rfl T.g_law_take T.F_law_take.kp b_law_take .nil pass0 (pa_cons (pv 0) (pa_cons pe_int pa_nil)))))
 (Evl.pss_cut (ps_set (i := 6) sc_law_tree.nd rfl (Or.inr rfl) (pe_ix ix_list (pe_lst (pa_cons pe_int (pa_cons pe_int (pa_cons (pe_op op_add pe_int (pe_call G_law_take (hr.mono (by first | decide | omega)) rfl T.g_law_take T.F_law_take.kp b_law_take .nil pass0 (pa_cons (pv 0) (pa_cons (pe_op op_fdivW (pe_op op_powW pe_int pe_int) (pv 5)) pa_nil)))) pa_nil)))) (pe_call G_law_take (hr.mono (by first | decide | omega)) rfl T.g_law_take T.F_law_take.kp b_law_take .nil pass0 (pa_cons (pv 0) (pa_cons pe_int pa_nil))) (fun _ _ => rfl)))
 (pss_cons (ps_setLc (i := 8) (own := [("k", 7)]) (g := gName 7) (tt := tYes) rfl sc_law_tree.nd rfl rfl (sw_true rfl rfl rfl (by decide +kernel)) (pi_range2 rfl T.n_range (pa_cons pe_int (pa_cons (pe_op op_add (pv 5) pe_int) pa_nil))) (blkOk_by (own := [("k", 7)]) (N := ["pot", "space", "levels", "wide", "shape", "many", "apart", "k", "left", "numbers", "pages", "root", "leaves", "number", "following"]) (sc := defScope s_law_tree) (by decide +kernel)) (fun _ _ _ _ _ => (pg_name (i := 7) sc_law_tree.nd rfl (Or.inl rfl))) (fun _ _ _ _ _ => pts_nil) (fun _ _ _ _ _ => (pe_op op_mulW (pv 6) (pv 7))))
 (pss_cons (ps_set (i := 9) sc_law_tree.nd rfl (Or.inl rfl) (pe_lst pa_nil))
 (pss_cons (ps_for PassesOwn.never rfl (pi_range1 rfl T.n_range (pa_cons (pe_call G_law_pages (hr.mono (by first | decide | omega)) rfl T.g_law_pages T.F_law_pages.kp b_law_pages .nil pass0 (pa_cons (pv 4) pa_nil)) pa_nil)) (pg_name (i := 7) sc_law_tree.nd rfl (Or.inl rfl))
 (pss_one (ps_expr (pe_bm PySem.F.plainAttrs_list PySem.F.slot_list_append PySem.F.type_list_append mt_append (pv 9) (pa_cons (pe_bm PySem.F.plainAttrs_list PySem.F.slot_list_pop PySem.F.type_list_pop mt_popAt (pv 8) (pa_cons (pe_ix ix_list (pe_lst (pa_cons pe_int (pa_cons (pe_call G_law_take (hr.mono (by first | decide | omega)) rfl T.g_law_take T.F_law_take.kp b_law_take .nil pass0 (pa_cons (pv 0) (pa_cons (pe_callB call_len_seq rfl T.n_len PySem.boot_len (pa_cons (pv 8) pa_nil)) pa_nil))) pa_nil))) (pe_call G_law_take (hr.mono (by first | decide | omega)) rfl T.g_law_take T.F_law_take.kp b_law_take .nil pass0 (pa_cons (pv 0) (pa_cons pe_int pa_nil))) (fun _ _ => rfl)) pa_nil)) pa_nil)))))
 (pss_cons (ps_set (i := 10) sc_law_tree.nd rfl (Or.inl rfl) pe_dnewK)
 (pss_cons (ps_set (i := 11) sc_law_tree.nd rfl (Or.inl rfl) (pe_call G_law_laid (hr.mono (by first | decide | omega)) rfl T.g_law_laid T.F_law_laid.kp b_law_laid .nil pass0 (pa_cons (pv 0) (pa_cons (pv 4) (pa_cons (pe_lst (pa_cons (pe_call G_law_pairs (hr.mono (by first | decide | omega)) rfl T.g_law_pairs T.F_law_pairs.kp b_law_pairs .nil pass0 (pa_cons (pv 0) (pa_cons (pe_call G_law_many (hr.mono (by first | decide | omega)) rfl T.g_law_many T.F_law_many.kp b_law_many .nil pass0 (pa_cons (pv 4) pa_nil)) pa_nil))) (pa_cons (pv 9) (pa_cons (pe_un un_neg pe_int) pa_nil)))) (pa_cons (pv 10) pa_nil))))))
 (pss_cons (ps_set (i := 12) sc_law_tree.nd rfl (Or.inl rfl) (pe_call G_law_leaves (hr.mono (by first | decide | omega)) rfl T.g_law_leaves T.F_law_leaves.kp b_law_leaves .nil pass0 (pa_cons (pv 10) (pa_cons (pv 11) pa_nil))))
 (pss_cons (ps_for PassesOwn.never rfl (pi_zipA rfl T.n_zip (pa_cons (pv 12) (pa_cons (pe_op op_cat (pe_slice sl_list (pv 12) (po_some pe_int) po_none) (pe_lst (pa_cons pe_int pa_nil))) pa_nil))) (pg_tup rfl (pgs_cons (pg_name (i := 13) sc_law_tree.nd rfl (Or.inl rfl)) (pgs_cons (pg_name (i := 14) sc_law_tree.nd rfl (Or.inl rfl)) pgs_nil)))
 (pss_one (ps_dput (hu_of hr) (pv 10) (pv 13) (pe_op op_catA (pe_slice sl_tupA (pe_dget (hu_of hr) (pv 10) (pv 13) (fun _ _ => rfl)) po_none (po_some pe_int)) (pe_tup (pa_cons (pv 14) pa_nil))) rfl)))
 (pss_one (ps_ret (pe_tup (pa_cons (pv 1) (pa_cons (pv 11) (pa_cons (pe_callTy RU.call_tupF rfl T.n_tuple (by decide +kernel) (pa_cons (pe_callB (HS.cr_sortedItK rfl) rfl T.n_sorted (by decide +kernel) (pa_cons (pe_bm0 PySem.F.plainAttrs_dict PySem.F.slot_dict_items PySem.F.type_dict_items HS.mt_itemsK (pv 10)) pa_nil)) pa_nil)) pa_nil)))))))))))))))), ?_⟩
    refine ⟨_, rfl, _, rfl, _, rfl, _, rfl, p, room, l, wide, true, B, rfl, hl, hr3, hr8, hw, hp, by omega, fun H1 sv s b1 hp1 hs1 hwf htg => ?_⟩
    have hpg : pgsS l s ≤ 600 := by
      rcases hcs0 with z | ⟨z0, z4⟩
      · exact Nat.le_trans (pgs_le hwf) z
      · have z1 := tight_few hr3 z4 (htg z0)
        have z2 : 2 ^ (l + 1) ≤ 2 ^ 6 := Nat.pow_le_pow_right (by decide) (by omega)
        omega
    have hcn2 : cntS l s ≤ 8 * 600 := Nat.le_trans (cnt_pgs hwf) (Nat.mul_le_mul hr8 hpg)
    have hpg1 : 1 ≤ pgsS l s := by cases l <;> (unfold pgsS; omega)
    refine ⟨fun σ' H' => ∃ M : Nat, σ' = [some (.ref p), some (.int (room : Int)), some (.int ((l + 1 : Nat) : Int)), some (.int (wide : Int)), some sv, some (.int (M : Int)), none, none, none, none, none, none, none, none, none] ∧ But p H1 H' ∧ PotOk H' p (B + cS room l + 1) ∧ pgsS l s ≤ M ∧ M ≤ 603, ?_, ?_⟩
    · refine ⟨_, rfl, l, room, true, sv, s, rfl, hl, hr8, hwf, hs1, fun H2 s2 => ?_⟩
      refine ⟨_, rfl, p, 4, _, rfl, by decide, by decide, hp1.same s2, by omega, fun H3 v3 b3 hp3 l3 u3 => ⟨_, _, rfl, rfl, ?_⟩⟩
      refine ⟨pgsS l s + v3.toNat, ?_, (But.of s2).trans b3, hp3, by omega, by omega⟩
      show [some (V.ref p), some (.int (room : Int)), some (.int ((l + 1 : Nat) : Int)), some (.int (wide : Int)), some sv, some (V.int (((pgsS l s : Nat) : Int) + v3)), none, none, none, none, none, none, none, none, none] = _
      rw [show ((pgsS l s : Nat) : Int) + v3 = ((pgsS l s + v3.toNat : Nat) : Int) by omega]
    rintro σ' H3 ⟨M, rfl, b3, hp3, hM1, hM2⟩
    have hs3 := hs1.keep (hp1.keep b3)
    -- apart
    refine ⟨fun σ' H' => ∃ A : Int, σ' = [some (.ref p), some (.int (room : Int)), some (.int ((l + 1 : Nat) : Int)), some (.int (wide : Int)), some sv, some (.int (M : Int)), some (.int A), none, none, none, none, none, none, none, none] ∧ But p H3 H' ∧ PotOk H' p (B + cS room l + 3) ∧ 1 ≤ A ∧ A * M ≤ 1000000, ?_, ?_⟩
    · have d1 : (10 : Int) ^ (6 : Int).toNat / (M : Int) * (M : Int) ≤ 1000000 := by
        rw [show (10 : Int) ^ (6 : Int).toNat = 1000000 by decide]
        exact Int.ediv_mul_le _ (by omega)
      have d2 : 1 ≤ (10 : Int) ^ (6 : Int).toNat / (M : Int) := Int.le_ediv_of_mul_le (by omega) (by rw [show (10 : Int) ^ (6 : Int).toNat = 1000000 by decide]; omega)
      have d3 : (10 : Int) ^ (6 : Int).toNat / (M : Int) ≤ 1000000 := by
        have z := Int.mul_le_mul_of_nonneg_left (by omega : (1 : Int) ≤ (M : Int)) (by omega : 0 ≤ (10 : Int) ^ (6 : Int).toNat / (M : Int))
        rw [Int.mul_one] at z
        omega
      refine ⟨_, rfl, _, _, rfl, rfl, powW_of (a := 4) (by decide) (by decide) (by decide) (by decide), _, rfl, _, _, rfl, rfl, wide_div (b := 60) (by omega) (by omega) (by decide) (by decide), ?_⟩
      refine ⟨p, (10 : Int) ^ (6 : Int).toNat / (M : Int), _, rfl, by omega, by omega, hp3, by omega, fun H4 v4 b4 hp4 l4 u4 => ⟨_, _, rfl, rfl, by show 3 ≤ sizeLine; decide, fun q hq => ?_⟩⟩
      refine ⟨_, rfl, p, 3, _, rfl, by decide, by decide, hp4.new hq, by omega, fun H5 v5 b5 hp5 l5 u5 => ?_⟩
      have npq := hp4.ne hq
      have hq5 : H5 q = some (.lst [.int 1, .int 1, .int (1 + v4)]) := b5 _ _ npq.symm upd_same
      have pick : ∃ v : Int, atI [V.int 1, V.int 1, V.int (1 + v4)] v5 = some (.int v) ∧ 1 ≤ v ∧ v ≤ (10 : Int) ^ (6 : Int).toNat / (M : Int) := by
        rcases (by omega : v5 = 0 ∨ v5 = 1 ∨ v5 = 2) with rfl | rfl | rfl
        · exact ⟨1, rfl, by omega, by omega⟩
        · exact ⟨1, rfl, by omega, by omega⟩
        · exact ⟨1 + v4, rfl, by omega, by omega⟩
      obtain ⟨v, hv, hv1, hv2⟩ := pick
      refine ⟨q, _, _, _, rfl, rfl, SqL.of hq5, hv, v, rfl, fun b o nb z => b5 _ _ nb ?_, hp5.le (by omega), hv1, ?_⟩
      · have z4 := b4 _ _ nb z
        rw [upd_ne (ne_of_none z4 hq)]
        exact z4
      · exact Int.le_trans (Int.mul_le_mul_of_nonneg_right hv2 (by omega)) d1
    rintro σ' H4 ⟨A, rfl, b4, hp4, hA1, hA2⟩
    have hs4 := hs3.keep (hp3.keep b4)
    have hAk : ∀ k : Int, 0 ≤ k → k ≤ M → A * k ≤ 1000000 := fun k h0 h1 => Int.le_trans (Int.mul_le_mul_of_nonneg_left h1 (by omega)) hA2
    have hAm : A ≤ 1000000 := by
      have := hAk 1 (by omega) (by omega)
      omega
    -- left
    refine ⟨_, rfl, _, _, rfl, rfl, 1, (M : Int) + 1, rfl, by omega, fun L hL => ?_⟩
    rw [show ((M : Int) + 1 - 1).toNat = M by omega]
    refine lc_it walk_range (fun i H' => Same H4 H' ∧ H' L = some (.lst (fl i (fun k => A * (1 + (k : Int)))))) ⟨same_new hL, upd_same⟩ (fun _ _ _ _ => trivial) ?_ ?_
    · rintro i x H5 H6 hi ⟨s5, hL5⟩ ⟨rfl, rfl⟩
      refine ⟨rfl, ?_⟩
      dsimp only [tYes]
      rw [if_pos rfl]
      refine ⟨_, rfl, _, rfl, _, _, rfl, rfl, wide_mul (a := 30) (b := 30) (by omega) (by omega) (by decide) (by decide) (by decide), _, hL5, ?_, same_upd s5 hL, ?_⟩
      · rw [fl_len]
        exact Nat.lt_of_le_of_lt (by omega : _ ≤ 100000) (by decide)
      · rw [upd_same, ← fl_snoc]
    rintro H5 ⟨s5, hL5⟩
    -- numbers
    refine ⟨Nat.zero_le _, fun N hN => ?_⟩
    have npL : p ≠ L := hp4.ne hL
    have hp5 : PotOk H5 p (B + cS room l + 3) := hp4.same (Same.trans (fun b o e => e) s5)
    have npN : p ≠ N := hp5.ne hN
    have nLN : L ≠ N := ne_of_none hL5 hN
    obtain ⟨L0, hL0⟩ : ∃ L0 : List Int, L0 = (List.range M).map fun k : Nat => A * (1 + (k : Int)) := ⟨_, rfl⟩
    have hL5' : H5 L = some (.lst (L0.map V.int)) := by
      rw [hL5, hL0, List.map_map]
      rfl
    have nd0 : L0.Nodup := by
      rw [hL0]
      refine List.Pairwise.map _ (fun a b h => ?_) (List.nodup_range (n := M))
      intro e
      have := Int.eq_of_mul_eq_mul_left (by omega : A ≠ 0) e
      omega
    have rg0 : ∀ x ∈ L0, 1 ≤ x ∧ x ≤ 1000000 := fun x hx => by
      rw [hL0] at hx
      obtain ⟨k, hk, rfl⟩ := List.mem_map.mp hx
      have := List.mem_range.mp hk
      refine ⟨?_, hAk _ (by omega) (by omega)⟩
      have z := Int.mul_le_mul hA1 (by omega : (1 : Int) ≤ 1 + (k : Int)) (by omega) (by omega)
      omega
    have len0 : L0.length = M := by rw [hL0, List.length_map, List.length_range]
    have hs5 := hs4.keep (Keep.of (Same.trans (fun b o e => e : Same H4 H4) s5))
    have s6 : Same H5 (upd H5 N (.lst [])) := same_new hN
    have hN6 : upd H5 N (.lst []) N = some (.lst []) := upd_same
    generalize upd H5 N (.lst []) = H6 at s6 hN6
    have hs6 := hs5.keep (Keep.of s6)
    refine ⟨_, rfl, l, room, true, sv, s, rfl, hl, hr8, hwf, hs6, fun H7 s7 => ?_⟩
    refine ⟨_, rfl, by omega, by omega, ?_⟩
    rw [show ((pgsS l s : Nat) : Int).toNat = pgsS l s by omega]
    refine for_range (fun i σ H' => ∃ v7 Ns Lf, σ = [some (.ref p), some (.int (room : Int)), some (.int ((l + 1 : Nat) : Int)), some (.int (wide : Int)), some sv, some (.int (M : Int)), some (.int A), v7, some (.ref L), some (.ref N), none, none, none, none, none] ∧
      But3 p L N H7 H' ∧ PotOk H' p (B + cS room l + 3 + 2 * i) ∧ H' L = some (.lst (Lf.map V.int)) ∧ H' N = some (.lst (Ns.map V.int)) ∧ Ns.length = i ∧ (Ns ++ Lf).Perm L0)
      ⟨none, [], L0, rfl, fun _ _ _ _ _ e => e, by rw [show B + cS room l + 3 + 2 * ((0 : Nat) : Int) = B + cS room l + 3 by omega]; exact (hp5.same s6).same s7, s7 _ _ (s6 _ _ hL5'), s7 _ _ hN6, rfl, List.Perm.refl _⟩ ?_ ?_
    · rintro i σ H8 hi ⟨v7, Ns, Lf, rfl, b8, hp8, hL8, hN8, hNl, hperm⟩
      have hLf : Ns.length + Lf.length = M := by
        have z := hperm.length_eq
        rw [List.length_append] at z
        omega
      refine ⟨_, rfl, .inl ⟨rfl, _, SqL.of hN8⟩, _, rfl, .inl ⟨rfl, _, SqL.of hL8⟩, ?_⟩
      refine ⟨_, rfl, _, rfl, L, _, rfl, .inl (SqL.of hL8), ?_⟩
      rw [List.length_map]
      refine ⟨p, (Lf.length : Int), _, rfl, by omega, by omega, hp8, by omega, fun H9 v9 b9 hp9 l9 u9 => ⟨by show 2 ≤ sizeLine; decide, fun q hq => ?_⟩⟩
      refine ⟨_, rfl, p, 2, _, rfl, by decide, by decide, hp9.new hq, by omega, fun Ha va ba hpa la ua => ?_⟩
      have npq := hp9.ne hq
      have pick : ∃ v : Nat, atI [V.int 0, V.int v9] va = some (.int (v : Int)) ∧ v < Lf.length := by
        rcases (by omega : va = 0 ∨ va = 1) with rfl | rfl
        · exact ⟨0, rfl, by omega⟩
        · exact ⟨v9.toNat, by rw [show ((v9.toNat : Nat) : Int) = v9 by omega]; rfl, by omega⟩
      obtain ⟨v, hv, hvl⟩ := pick
      have hLa : Ha L = some (.lst (Lf.map V.int)) := ba _ _ npL.symm (by
        have z := b9 _ _ npL.symm hL8
        rw [upd_ne (ne_of_none z hq)]
        exact z)
      have hNa : Ha N = some (.lst (Ns.map V.int)) := ba _ _ npN.symm (by
        have z := b9 _ _ npN.symm hN8
        rw [upd_ne (ne_of_none z hq)]
        exact z)
      refine ⟨q, _, _, _, rfl, rfl, SqL.of (ba _ _ npq.symm upd_same), hv, ?_⟩
      refine ⟨L, _, (v : Int), v, .int (Lf[v]'hvl), rfl, rfl, hLa, by omega, by omega, ?_, ?_, ?_⟩
      · rw [List.length_map]
        exact seqk hvl
      · rw [List.getElem?_map, List.getElem?_eq_getElem hvl]
        rfl
      · refine ⟨N, _, _, rfl, rfl, by rw [upd_ne nLN.symm]; exact hNa, ?_, ?_⟩
        · rw [List.length_map]
          exact Nat.lt_of_le_of_lt (by omega : _ ≤ 100000) (by decide)
        refine ⟨_, Ns ++ [Lf[v]'hvl], Lf.eraseIdx v, rfl, fun b o n1 n2 n3 e => ?_, ?_, ?_, ?_, ?_, ?_⟩
        · rw [upd_ne n3, upd_ne n2]
          refine ba _ _ n1 ?_
          have z := b9 _ _ n1 (b8 _ _ n1 n2 n3 e)
          rw [upd_ne (ne_of_none z hq)]
          exact z
        · exact ((hpa.put npL).put npN).le (by omega)
        · rw [upd_ne nLN, upd_same, erase_map]
        · rw [upd_same, List.map_append]
          rfl
        · rw [List.length_append, hNl]
          rfl
        · rw [List.append_assoc]
          exact (List.Perm.append_left Ns (erase_perm hvl)).trans hperm
    rintro σ H8 ⟨v7, Ns, Lf, rfl, b8, hp8, hL8, hN8, hNl, hperm⟩
    have nd1 : Ns.Nodup := ((hperm.nodup_iff.mpr nd0).sublist (List.sublist_append_left Ns Lf))
    have rg1 : ∀ x ∈ Ns, 1 ≤ x ∧ x ≤ 1000000 := fun x hx => rg0 x (hperm.mem_iff.mp (List.mem_append_left _ hx))
    have k8 : Keep H7 H8 := ⟨fun c u tu e => b8 c _ (tpb_no ((hp5.same s6).same s7).noTup tu e) (fun z => by subst z; rw [s7 _ _ (s6 _ _ hL5')] at e; cases e; cases tu) (fun z => by subst z; rw [s7 _ _ hN6] at e; cases e; cases tu) e⟩
    have hs8 := (hs6.keep (Keep.of s7)).keep k8
    have f8 : ∀ b o, b ≠ p → H b = some o → H8 b = some o ∧ b ≠ N := fun b o nb e => by
      have z4 := b4 _ _ nb (b3 _ _ nb (b1 _ _ nb e))
      have z5 := (Same.trans (fun b o e => e : Same H4 H4) s5) _ _ z4
      exact ⟨b8 _ _ nb (ne_of_none z4 hL) (ne_of_none z5 hN) (s7 _ _ (s6 _ _ z5)), ne_of_none z5 hN⟩
    -- the pages
    refine fun d hd => ?_
    have npd := hp8.ne hd
    have nNd := ne_of_none hN8 hd
    have s9 : Same H8 (upd H8 d (.dK [])) := same_new hd
    have hd9 : upd H8 d (.dK []) d = some (.dK []) := upd_same
    generalize upd H8 d (.dK []) = H9 at s9 hd9
    have hp9 := hp8.same s9
    have hs9 := hs8.keep (Keep.of s9)
    refine ⟨_, rfl, _, rfl, _, rfl, _, rfl, l, room, true, sv, s, rfl, hl, hr8, hwf, hs9, fun Ha sa => ?_⟩
    have hpa := hp9.same sa
    refine ⟨p, cntS l s, _, rfl, by omega, hpa, by omega, fun Hb a ps bb hpb ha hps hlen hok _ => ?_⟩
    have hNb : Hb N = some (.lst (Ns.map V.int)) := bb _ _ npN.symm (sa _ _ (s9 _ _ hN8))
    have hdb : Hb d = some (.dK []) := bb _ _ npd.symm (sa _ _ hd9)
    refine ⟨_, rfl, 1, rfl, by show 3 ≤ sizeLine; decide, fun R hR => ⟨_, rfl, ?_⟩⟩
    have npR := hpb.ne hR
    have nNR := ne_of_none hNb hR
    have ndR := ne_of_none hdb hR
    obtain ⟨xs, hxa, hpx⟩ := hps
    have naR := ne_of_none hxa hR
    have sb : Same Hb (upd Hb R (.lst [.ref a, .ref N, .int (-1)])) := same_new hR
    have hRc : upd Hb R (.lst [.ref a, .ref N, .int (-1)]) R = some (.lst [.ref a, .ref N, .int (-1)]) := upd_same
    have hsb := (hs9.keep (Keep.of sa)).keep (hpa.keep bb)
    generalize upd Hb R (.lst [.ref a, .ref N, .int (-1)]) = Hc at sb hRc
    have nad : a ≠ d := fun e => by rw [e, sa _ _ hd9] at ha; cases ha
    have naN : a ≠ N := fun e => by rw [e, sa _ _ (s9 _ _ hN8)] at ha; cases ha
    have nap : a ≠ p := (hpa.ne ha).symm
    have I : LaidIn Hc l room s p R N d ps Ns [] (-1) (B + cS room l + 3 + 2 * (pgsS l s : Nat) + 10 * (cntS l s : Nat) + 10) := by
      refine ⟨hr3, hr8, hpb.same sb, by omega, ⟨a, hRc, ⟨xs, sb _ _ hxa, paired_imp (fun _ _ r => PrAt.keep (Keep.of sb) r) hpx⟩, sb _ _ hNb, nap, naR, naN, nad⟩, ⟨[], sb _ _ hdb, .nil⟩, ⟨npR, npN, npd, nNR.symm, ndR.symm, nNd⟩, hok, ?_, Int.le_refl _, by decide, by omega, by omega, nd1, fun _ _ => rfl, by omega, ?_⟩
      · intro q hq
        have := (hok.2 q hq).1
        omega
      · show 0 + Ns.length ≤ 100000
        omega
    refine ⟨l, room, true, sv, s, p, R, N, d, ps, Ns, [], -1, _, rfl, hl, hwf, hsb.keep (Keep.of sb), I, fun Hd t D last' bd hpd hrd hdd g => ?_⟩
    have hns : nums l t = Ns := by rw [g.number, List.take_of_length_le (by omega)]
    have hprs : prs l t = ps := by rw [g.pairs, List.take_of_length_le (by omega)]
    have hdd : DctAt Hd d D := hdd
    have laidD : Laid D l t := g.laid
    -- the leaves
    have hLl : (lvs l t).length ≤ 603 := by
      have z := lvs_len (l := l) (t := t)
      rw [hns] at z
      omega
    refine ⟨_, rfl, _, rfl, l, t, d, D, rfl, hl, hdd, laidD, by omega, fun He b se hb hbe => ?_⟩
    refine ⟨_, rfl, _, rfl, 1, rfl, b, _, rfl, SqL.of hbe, fun q1 hq1 => ?_⟩
    have ecut : cutV ((lvs l t).map V.int) (some 1) none = ((lvs l t).drop 1).map V.int := by
      rw [List.map_drop]
      exact cut_from' (n := 1)
    rw [ecut]
    refine ⟨by show 1 ≤ sizeLine; decide, fun q2 hq2 => ?_⟩
    have n12 : q1 ≠ q2 := ne_of_none (upd_same : upd He q1 (.lst (((lvs l t).drop 1).map V.int)) q1 = _) hq2
    refine ⟨q1, q2, _, _, rfl, rfl, by rw [upd_ne n12]; exact upd_same, upd_same, ?_, fun q3 hq3 => ?_⟩
    · rw [List.length_map, List.length_drop]
      exact Nat.le_trans (by show _ + 1 ≤ 100000; omega) (by decide)
    have e3 : (((lvs l t).drop 1).map V.int ++ [V.int 0]) = ((lvs l t).drop 1 ++ [0]).map V.int := by rw [List.map_append]; rfl
    rw [e3]
    have sf : Same He (upd (upd (upd He q1 (.lst (((lvs l t).drop 1).map V.int))) q2 (.lst [.int 0])) q3 (.lst (((lvs l t).drop 1 ++ [0]).map V.int))) := ((same_new hq1).trans (same_new hq2)).trans (same_new hq3)
    have hq3f : upd (upd (upd He q1 (.lst (((lvs l t).drop 1).map V.int))) q2 (.lst [.int 0])) q3 (.lst (((lvs l t).drop 1 ++ [0]).map V.int)) q3 = some (.lst (((lvs l t).drop 1 ++ [0]).map V.int)) := upd_same
    generalize upd (upd (upd He q1 (.lst (((lvs l t).drop 1).map V.int))) q2 (.lst [.int 0])) q3 (.lst (((lvs l t).drop 1 ++ [0]).map V.int)) = Hf at sf hq3f
    have hbf := sf _ _ hbe
    refine ⟨b, q3, _, _, rfl, .inl ⟨SqL.of hbf, SqL.of hq3f, ?_⟩⟩
    have hdf : DctAt Hf d D := hdd.same (se.trans sf)
    have nbd : b ≠ d := fun e => by
      obtain ⟨es, h1, _⟩ := hdf
      rw [← e, hbf] at h1
      cases h1
    have n3d : q3 ≠ d := fun e => by
      obtain ⟨es, h1, _⟩ := hdf
      rw [← e, hq3f] at h1
      cases h1
    have len1 : ((lvs l t).map V.int).length = (lvs l t).length := List.length_map ..
    have lz : (lvs l t).length = min ((lvs l t).map V.int).length (((lvs l t).drop 1 ++ [0]).map V.int).length := by
      rw [List.length_map, List.length_map, List.length_append, List.length_drop]
      show _ = min _ (_ - 1 + 1)
      omega
    have ndl : (lvs l t).Nodup := (by rw [hns]; exact nd1 : (nums l t).Nodup).sublist lvs_sub
    have dfew : D.length ≤ 603 := by
      have z := g.keys.length_eq
      rw [List.length_map, hns] at z
      omega
    refine for_it (walk_zip lz) (fun i σ H' => ∃ v13 v14 D', σ = [some (.ref p), some (.int (room : Int)), some (.int ((l + 1 : Nat) : Int)), some (.int (wide : Int)), some sv, some (.int (M : Int)), some (.int A), v7, some (.ref L), some (.ref N), some (.ref d), some (.int (num l t)), some (.ref b), v13, v14] ∧
      But d Hf H' ∧ DctAt H' d D' ∧ D'.map (·.1) = D.map (·.1) ∧ Laid D' l t ∧ NextOk D' (lvs l t) i) ⟨none, none, D, rfl, But.refl d Hf, hdf, rfl, laidD, fun j n hj => by omega⟩ (fun i σ H' _ z => ?_) ?_ ?_
    · obtain ⟨_, _, _, _, b', _⟩ := z
      exact ⟨SqL.of (b' _ _ nbd hbf), SqL.of (b' _ _ n3d hq3f)⟩
    · rintro i x σ Hg Hh hi ⟨v13, v14, D', rfl, bg, hdg, ek, lD, nxt⟩ ⟨tz, x1, x2, rfl, htz, rfl, e1, e2⟩
      obtain ⟨n, hn, rfl⟩ := map_at e1
      obtain ⟨f, hf, rfl⟩ := map_at e2
      rw [foll hi] at hf
      obtain rfl := Option.some.inj hf
      refine ⟨tz, _, rfl, SqT.of upd_same, rfl, _, _, rfl, _, _, rfl, rfl, ?_⟩
      have sg : Same Hg (upd Hg tz (.tup [.int n, .int ((lvs l t)[i + 1]?.getD 0)])) := same_new htz
      generalize upd Hg tz (.tup [.int n, .int ((lvs l t)[i + 1]?.getD 0)]) = Hh at sg
      obtain ⟨pp, nx, hlk⟩ := lvs_leaf lD (List.mem_of_getElem? hn)
      obtain ⟨v, hv, t1, qp, rfl, ht1, hqp⟩ := (hdg.same sg).get hlk
      refine ⟨_, rfl, _, rfl, d, _, rfl, hv, 2, rfl, t1, _, rfl, SqT.of ht1, (fun h => absurd (show (2 : Nat) = 3 from h.2) (by decide)), fun _ q4 hq4 => ?_⟩
      have ec : cutV [V.str "leaf", .ref qp, .int nx] none (some 2) = [V.str "leaf", .ref qp] := rfl
      refine ⟨_, rfl, by show 1 ≤ sizeLine; decide, fun q5 hq5 => ?_⟩
      have n45 := ne_of_none (upd_same : upd Hh q4 (.tup (cutV [V.str "leaf", .ref qp, .int nx] none (some 2))) q4 = _) hq5
      refine ⟨q4, q5, _, _, rfl, rfl, SqT.of (by rw [upd_ne n45]; exact upd_same), SqT.of upd_same, by show (3 : Nat) ≤ sizeLine; decide, (fun e => by cases e), (fun _ e => by cases e), fun _ _ q6 hq6 => ?_⟩
      have s6 : Same Hh (upd (upd (upd Hh q4 (.tup (cutV [V.str "leaf", .ref qp, .int nx] none (some 2)))) q5 (.tup [.int ((lvs l t)[i + 1]?.getD 0)])) q6 (.tup (cutV [V.str "leaf", .ref qp, .int nx] none (some 2) ++ [.int ((lvs l t)[i + 1]?.getD 0)]))) := ((same_new hq4).trans (same_new hq5)).trans (same_new hq6)
      have hq66 : upd (upd (upd Hh q4 (.tup (cutV [V.str "leaf", .ref qp, .int nx] none (some 2)))) q5 (.tup [.int ((lvs l t)[i + 1]?.getD 0)])) q6 (.tup (cutV [V.str "leaf", .ref qp, .int nx] none (some 2) ++ [.int ((lvs l t)[i + 1]?.getD 0)])) q6 = some (.tup [.str "leaf", .ref qp, .int ((lvs l t)[i + 1]?.getD 0)]) := upd_same
      generalize upd (upd (upd Hh q4 (.tup (cutV [V.str "leaf", .ref qp, .int nx] none (some 2)))) q5 (.tup [.int ((lvs l t)[i + 1]?.getD 0)])) q6 (.tup (cutV [V.str "leaf", .ref qp, .int nx] none (some 2) ++ [.int ((lvs l t)[i + 1]?.getD 0)])) = Hi at s6 hq66
      obtain ⟨es, hdi, hde⟩ := (hdg.same sg).same s6
      have nl := Paired.length hde
      have nl2 := congrArg List.length ek
      rw [List.length_map, List.length_map] at nl2
      refine ⟨_, rfl, _, rfl, d, _, rfl, DPut.k (k := .inl n) hdi ?_, ?_⟩
      · exact Nat.lt_of_le_of_lt (by omega : es.length ≤ 100000) (by decide)
      have ki : Keep Hi (upd Hi d (.dK (putK es (.inl n) (.ref q6)))) := (Keep.refl Hi).upd fun ys e => by rw [hdi] at e; cases e; rfl
      have pg6 : PgAt (upd Hi d (.dK (putK es (.inl n) (.ref q6)))) (.ref q6) (.leaf pp ((lvs l t)[i + 1]?.getD 0)) := ⟨q6, qp, rfl, ki _ _ hq66, (hqp.keep (Keep.of s6)).keep ki⟩
      refine ⟨_, _, setp D' n (.leaf pp ((lvs l t)[i + 1]?.getD 0)), rfl, (bg.trans (But.of (sg.trans s6))).upd, ⟨_, upd_same, ?_⟩, by rw [setp_keys]; exact ek, lD.setp hlk, nxt.step ndl hn hlk⟩
      have epk := putK_old (v := V.ref q6) hde hlk
      refine (congrArg (fun y => Paired (EnAt (upd Hi d (.dK (putK es (.inl n) (.ref q6))))) y (setp D' n (.leaf pp ((lvs l t)[i + 1]?.getD 0)))) epk).mpr ?_
      exact DctAt.set (k := n) pg6 (paired_imp (fun _ _ (r : EnAt Hi _ _) => (⟨r.1, r.2.keep ki⟩ : EnAt _ _ _)) hde)
    · rintro σ Hg ⟨v13, v14, D', rfl, bg, hdg, ek, lD, nxt⟩
      obtain ⟨es, hdg1, hde⟩ := hdg
      obtain ⟨ks, rfl, hks⟩ := dct_keys hde
      refine ⟨_, rfl, _, rfl, _, rfl, .inr (.inr (.inl ⟨rfl, .inl ⟨_, hdg1⟩⟩)), d, _, rfl, rfl, hdg1, fun q hq => ?_⟩
      refine ⟨q, d, ks, rfl, upd_same, same_new hq _ _ hdg1, fun Hk z ps' sk hz hperm' hsort hzl hzt => ?_⟩
      refine ⟨z, _, rfl, SqL.of hzl, fun z2 o2 hz2 ho2 => ⟨by show 3 ≤ sizeLine; decide, fun r hr => ?_⟩⟩
      obtain ⟨S, hS, hSp⟩ := paired_perm hperm' hks
      have ndD : (D'.map (·.1)).Nodup := by
        rw [ek]
        exact g.keys.nodup_iff.mpr (by rw [hns]; exact nd1)
      have sgk : Same Hg Hk := fun b o e => sk b o (by rw [upd_ne (ne_of_none e hq)]; exact e)
      have skz : Same Hk (upd (upd Hk z2 (.frz o2 (.tup (ps'.map fun z => V.ref z.1)))) r (.tup [.int (room : Int), .int (num l t), .ref z2])) := (same_new hz2).trans (same_new hr)
      have n2r : z2 ≠ r := ne_of_none (upd_same : upd Hk z2 (.frz o2 (.tup (ps'.map fun z => V.ref z.1))) z2 = _) hr
      have hz2' : upd (upd Hk z2 (.frz o2 (.tup (ps'.map fun z => V.ref z.1)))) r (.tup [.int (room : Int), .int (num l t), .ref z2]) z2 = some (.frz o2 (.tup (ps'.map fun z => V.ref z.1))) := by rw [upd_ne n2r]; exact upd_same
      refine kq _ (.ref r) t S (fun c o nc e => ?_) ?_ ?_ ?_
      · obtain ⟨z8, nN⟩ := f8 c o nc e
        have z9 := s9 _ _ z8
        have zb := bb _ _ nc (sa _ _ z9)
        have zd := bd _ _ nc (ne_of_none zb hR) nN (ne_of_none z8 hd) (sb _ _ zb)
        exact skz _ _ (sgk _ _ (bg _ _ (ne_of_none z8 hd) (sf _ _ (se _ _ zd))))
      · obtain ⟨x, y, c, h1, rr⟩ := (hpd.same se).same sf
        exact PotOk.le ⟨x, y, c, skz _ _ (sgk _ _ (bg _ _ npd h1)), rr⟩ (by omega)
      · refine ⟨hr3, hr8, by rw [g.shape]; exact hwf, by rw [hns]; exact nd1, by rw [hns]; exact rg1, ?_, ?_, lD.congr fun k => lkp_perm ndD hS k, fun j n hj hn => ?_, ?_, g.keyOk, by rw [hprs]; exact hok.1, by rw [hprs]; exact hok.2, by rw [hns]; omega⟩
        · have z := (hS.map (·.1))
          rw [ek] at z
          exact z.trans g.keys
        · have z : (S.map (·.1)).Pairwise (· < ·) := by
            rw [← keys_eq hSp, List.map_map]
            exact List.pairwise_map.mpr ((List.pairwise_map (f := fun z : Addr × Int × Addr => z.2) (R := fun e f : Int × Addr => e.1 < f.1)).mp hsort)
          exact List.pairwise_map.mp z
        · obtain ⟨pp, h⟩ := nxt j n hj hn
          exact ⟨pp, (lkp_perm ndD hS n).trans h⟩
        · refine g.keyB 0 1000000001 fun q hq => ?_
          have := hok.2 q (List.mem_of_mem_take hq)
          exact ⟨this.1, by omega⟩
      · exact ⟨r, z2, o2, _, rfl, upd_same, hz2', ho2, num_paired (Keep.of (sgk.trans skz)) hSp fun z hz => skz _ _ (hzt z hz)⟩
end
end K29

namespace K29
open PySem PySem.Spec PyProof.Rows L2 RZ HX TR RP
theorem same_but {H0 H H' : Hp} {p : Addr} (s : Same H0 H) (n : H0 p = none) (b : But p H H') : Same H0 H' := fun c o z => b c o (ne_of_none z n) (s c o z)
theorem tree_low {room l : Nat} {t : Tr l} {S : List (Int × Pg)} (h : TR.Tree room l t S) (few : (prs l t).length ≤ 100) : l ≤ 6 := by
  have w := (cnt_top h.r3 h.wf).2
  have ec : cntS l (shp l t) = (prs l t).length := cnt_prs
  rw [ec] at w
  rcases w with w | w
  · omega
  · by_cases c : l ≤ 6
    · exact c
    · have : 2 ^ (7 + 1) ≤ 2 ^ (l + 1) := Nat.pow_le_pow_right (by decide) (by omega)
      omega
theorem paired_erase {α β : Type} {R : α → β → Prop} : ∀ {xs : List α} {ys : List β} {k : Nat}, Paired R xs ys → Paired R (xs.eraseIdx k) (ys.eraseIdx k)
  | _, _, _, .nil => .nil
  | _, _, 0, .cons _ rs => rs
  | _, _, _ + 1, .cons r rs => .cons r (paired_erase rs)
theorem rootT_le : ∀ {l : Nat} {t : Tr l}, (rootT l t).1 ≤ l
  | 0, _ => Nat.le_refl 0
  | l + 1, t => by
    show (match t.kids with | [c] => (⟨l, c⟩ : Sigma Tr) | _ => ⟨l + 1, t⟩).1 ≤ l + 1
    split
    · exact Nat.le_succ l
    · exact Nat.le_refl _
section
variable {P : Program} {w : World} {K : PySem.W.Frag} {mg : Str → Option Value} {base : Heap}
def sp_law (K : PySem.W.Frag) : Sp := fun vs H Q _ => ∃ (a : Addr) (ns : List Int), vs = [.ref a] ∧ SqL K H a (ns.map V.int) ∧ ns.length ≤ 63 ∧ ∀ H', Q (.bl true) H'
theorem ok_law (T : TX K mg) : FnOk P w K mg base CX0 30 (He.ga K "law") T.fd_law ["script"] (sp_law K) := by
  have G_law_pot : FnOk P w K mg base CX0 1 (He.ga K "_law_pot") T.fd_law_pot ["script", "k"] (sp_law_pot K) := ok_law_pot T
  have G_law_take : FnOk P w K mg base CX0 1 (He.ga K "_law_take") T.fd_law_take ["pot", "many"] sp_law_take := ok_law_take T
  have G_law_tree : FnOk P w K mg base CX0 9 (He.ga K "_law_tree") T.fd_law_tree ["pot", "space", "levels", "wide"] sp_law_tree_w := ok_law_tree_w T
  have G_law_right : FnOk P w K mg base CX0 14 (He.ga K "_law_right") T.fd_law_right ["tree"] sp_law_right := ok_law_right T
  have G_law_renamed : FnOk P w K mg base CX0 1 (He.ga K "_law_renamed") T.fd_law_renamed ["tree"] sp_law_renamed := ok_law_renamed T
  have G_law_pairs_of : FnOk P w K mg base CX0 8 (He.ga K "_law_pairs_of") T.fd_law_pairs_of ["tree"] sp_law_pairs_of := ok_law_pairs_of T
  have G_shape_of : FnOk P w K mg base CX0 13 (He.ga K "shape_of") T.fd_shape_of ["tree"] sp_shape_of := ok_shape_of T
  have G_planted : FnOk P w K mg base CX0 13 (He.ga K "planted") T.fd_planted ["pairs", "room"] sp_planted := ok_planted T
  have G_drop : FnOk P w K mg base CX0 13 (He.ga K "drop") T.fd_drop ["tree", "key"] sp_drop := ok_drop T
  have b_law_pot := b_law_pot T
  have b_law_take := b_law_take T
  have b_law_tree := b_law_tree T
  have b_law_right := b_law_right T
  have b_law_renamed := b_law_renamed T
  have b_law_pairs_of := b_law_pairs_of T
  have b_shape_of := b_shape_of T
  have kb_planted := kb_planted T
  have b_drop := b_drop T
  refine T.F_law.ok sc_law (fun vs H Q E h => ?_) (fun cdv A outer st H vs Q E hr h => ?_)
  · obtain ⟨a, ns, rfl, _⟩ := h
    rfl
  · obtain ⟨a, ns, rfl, hS, hlen, kq⟩ := h
    refine ⟨_, PSs.nox (pss_cons (ps_for PassesOwn.never rfl (pi_range1 rfl T.n_range (pa_cons (pe_callB (call_max2 rfl) rfl T.n_max (by decide +kernel) (pa_cons pe_int (pa_cons (pe_callB (call_min2 rfl) rfl T.n_min (by decide +kernel) (pa_cons pe_int (pa_cons (pe_callB call_len_seq rfl T.n_len PySem.boot_len (pa_cons (pv 0) pa_nil)) pa_nil))) pa_nil))) pa_nil)) (pg_name (i := 1) sc_law.nd rfl (Or.inl rfl))
 (pss_cons (ps_set (i := 2) sc_law.nd rfl (Or.inr rfl) (pe_call G_law_pot (hr.mono (by first | decide | omega)) rfl T.g_law_pot T.F_law_pot.kp b_law_pot .nil pass0 (pa_cons (pv 0) (pa_cons (pv 1) pa_nil))))
 (Evl.pss_cut (ps_set (i := 3) sc_law.nd rfl (Or.inl rfl) (pe_op op_add pe_int (pe_call G_law_take (hr.mono (by first | decide | omega)) rfl T.g_law_take T.F_law_take.kp b_law_take .nil pass0 (pa_cons (pv 2) (pa_cons pe_int pa_nil)))))
 (Evl.pss_cut (ps_set (i := 4) sc_law.nd rfl (Or.inl rfl) (pe_op op_add pe_int (pe_call G_law_take (hr.mono (by first | decide | omega)) rfl T.g_law_take T.F_law_take.kp b_law_take .nil pass0 (pa_cons (pv 2) (pa_cons (pe_ix ix_list (RU.pe_lstS (pa_cons pe_int (pa_cons pe_int pa_nil))) (pe_callTy call_int1 rfl T.n_int (by decide +kernel) (pa_cons (pe_cmpR op_lt (pv 3) pe_int (nomark _)) pa_nil)) (fun _ _ => rfl)) pa_nil)))))
 (pss_cons (ps_set (i := 5) sc_law.nd rfl (Or.inl rfl) (pe_call G_law_tree (hr.mono (by first | decide | omega)) rfl T.g_law_tree T.F_law_tree.kp b_law_tree .nil pass0 (pa_cons (pv 2) (pa_cons (pv 3) (pa_cons (pv 4) (pa_cons (pe_callTy call_int1 rfl T.n_int (by decide +kernel) (pa_cons (pe_cmpR op_lt (pv 4) pe_int (nomark _)) pa_nil)) pa_nil))))))
 (pss_cons (ps_set (i := 6) sc_law.nd rfl (Or.inl rfl) (pe_call G_shape_of (hr.mono (by first | decide | omega)) rfl T.g_shape_of T.F_shape_of.kp b_shape_of .nil pass0 (pa_cons (pv 5) pa_nil)))
 (pss_cons (ps_if (PW.pt (pw_or (pt_not (pt_val (pe_call G_law_right (hr.mono (by first | decide | omega)) rfl T.g_law_right T.F_law_right.kp b_law_right .nil pass0 (pa_cons (pv 5) pa_nil)))) (pw_or1 (pt_cmpR (op_neD hr.units) (pe_call G_shape_of (hr.mono (by first | decide | omega)) rfl T.g_shape_of T.F_shape_of.kp b_shape_of .nil pass0 (pa_cons (pe_call G_law_renamed (hr.mono (by first | decide | omega)) rfl T.g_law_renamed T.F_law_renamed.kp b_law_renamed .nil pass0 (pa_cons (pv 5) pa_nil)) pa_nil)) (pv 6) (nomark _)))))
 (pss_one (ps_ret pe_bl))
 pss_nil)
 (pss_cons (ps_set (i := 7) sc_law.nd rfl (Or.inr rfl) (pe_slice RU.sl_lstS (pe_callTy RU.call_lstS rfl T.n_list (by decide +kernel) (pa_cons (pe_call G_law_pairs_of (hr.mono (by first | decide | omega)) rfl T.g_law_pairs_of T.F_law_pairs_of.kp b_law_pairs_of .nil pass0 (pa_cons (pv 5) pa_nil)) pa_nil)) po_none (po_some pe_int)))
 (pss_cons (ps_setLc (i := 8) (own := [("turn", 12)]) (g := gName 12) (tt := tYes) rfl sc_law.nd rfl rfl (sw_true rfl rfl rfl (by decide +kernel)) (pi_range1 rfl T.n_range (pa_cons (pe_callB call_len_seq rfl T.n_len PySem.boot_len (pa_cons (pv 7) pa_nil)) pa_nil)) (blkOk_by (own := [("turn", 12)]) (N := ["script", "k", "pot", "space", "levels", "tree", "shape", "pairs", "mixed", "other", "key", "value", "turn"]) (sc := defScope s_law) (by decide +kernel)) (fun _ _ _ _ _ => (pg_name (i := 12) sc_law.nd rfl (Or.inl rfl))) (fun _ _ _ _ _ => pts_nil) (fun _ _ _ _ _ => (EQT.pe_bmK K PySem.F.plainAttrs_list PySem.F.slot_list_pop PySem.F.type_list_pop mt_popAt (pv 7) (pa_cons (pe_call G_law_take (hr.mono (by first | decide | omega)) rfl T.g_law_take T.F_law_take.kp b_law_take .nil pass0 (pa_cons (pv 2) (pa_cons (pe_callB (lenK K) rfl T.n_len PySem.boot_len (pa_cons (pv 7) pa_nil)) pa_nil))) pa_nil))))
 (pss_cons (ps_set (i := 9) sc_law.nd rfl (Or.inl rfl) (pe_callN G_planted (hr.mono (by first | decide | omega)) rfl T.g_planted T.F_planted.kp kb_planted pass0 (pa_cons (pe_callTy RU.call_tupS rfl T.n_tuple (by decide +kernel) (pa_cons (pv 8) pa_nil)) pa_nil) (pk_cons (pv 3) pk_nil)))
 (pss_cons (ps_if (pt_not (pt_val (pe_call G_law_right (hr.mono (by first | decide | omega)) rfl T.g_law_right T.F_law_right.kp b_law_right .nil pass0 (pa_cons (pv 9) pa_nil))))
 (pss_one (ps_ret pe_bl))
 pss_nil)
 (pss_cons (ps_for PassesOwn.never rfl (pi_list (pe_slice RU.sl_lstS (pv 8) po_none (po_some (pe_call G_law_take (hr.mono (by first | decide | omega)) rfl T.g_law_take T.F_law_take.kp b_law_take .nil pass0 (pa_cons (pv 2) (pa_cons pe_int pa_nil)))))) (pg_tup rfl (pgs_cons (pg_name (i := 10) sc_law.nd rfl (Or.inl rfl)) (pgs_cons (pg_name (i := 11) sc_law.nd rfl (Or.inl rfl)) pgs_nil)))
 (pss_cons (ps_set (i := 9) sc_law.nd rfl (Or.inl rfl) (pe_ix ix_tup (pe_call G_drop (hr.mono (by first | decide | omega)) rfl T.g_drop T.F_drop.kp b_drop .nil pass0 (pa_cons (pv 9) (pa_cons (pv 10) pa_nil))) pe_int (fun _ _ => rfl)))
 (pss_one (ps_if (pt_not (pt_val (pe_call G_law_right (hr.mono (by first | decide | omega)) rfl T.g_law_right T.F_law_right.kp b_law_right .nil pass0 (pa_cons (pv 9) pa_nil))))
 (pss_one (ps_ret pe_bl))
 pss_nil))))
 (pss_one (ps_if (pt_cmpR (op_neD hr.units) (pe_call G_shape_of (hr.mono (by first | decide | omega)) rfl T.g_shape_of T.F_shape_of.kp b_shape_of .nil pass0 (pa_cons (pv 5) pa_nil)) (pv 6) (nomark _))
 (pss_one (ps_ret pe_bl))
 pss_nil))))))))))))))
 (pss_one (ps_ret pe_bl))), ?_⟩
    refine ⟨_, rfl, a, _, rfl, .inl hS, _, _, rfl, _, _, rfl, ?_⟩
    refine ⟨_, rfl, ?_, ?_, ?_⟩
    · split <;> split <;> omega
    · split <;> split <;> omega
    refine for_range (fun i σ H' => ∃ v1 v2 v3 v4 v5 v6 v7 v8 v9 va vb, σ = [some (.ref a), v1, v2, v3, v4, v5, v6, v7, v8, v9, va, vb, none] ∧ Same H H') ⟨_, _, _, _, _, _, _, _, _, _, _, rfl, Same.refl H⟩ ?_ ?_
    · rintro i σ H1 hi ⟨v1, v2, v3, v4, v5, v6, v7, v8, v9, va, vb, rfl, s1⟩
      have hi4 : i ≤ 1000 := by
        split at hi <;> (try split at hi) <;> omega
      refine ⟨_, rfl, _, rfl, a, ns, i, by rw [Int.zero_add]; rfl, s1.seq hS, hi4, fun H2 p s2 np hp => ?_⟩
      have npH : H p = none := Same.free s1 np
      refine ⟨fun σ' H' => ∃ room : Nat, σ' = [some (.ref a), some (.int (0 + (i : Nat))), some (.ref p), some (.int (room : Int)), v4, v5, v6, v7, v8, v9, va, vb, none] ∧ Same H H' ∧ PotOk H' p 1 ∧ 3 ≤ room ∧ room ≤ 8, ?_, ?_⟩
      · refine ⟨_, rfl, p, 6, _, rfl, by decide, by decide, hp, by decide, fun H3 w3 b3 hp3 l3 u3 => ⟨_, _, rfl, rfl, 3 + w3.toNat, ?_, same_but (s1.trans s2) npH b3, hp3, by omega, by omega⟩⟩
        rw [show ((3 + w3.toNat : Nat) : Int) = 3 + w3 by omega]
        rfl
      rintro σ' H3 ⟨room, rfl, s3, hp3, r3, r8⟩
      refine ⟨fun σ' H' => ∃ l : Nat, σ' = [some (.ref a), some (.int (0 + (i : Nat))), some (.ref p), some (.int (room : Int)), some (.int ((l + 1 : Nat) : Int)), v5, v6, v7, v8, v9, va, vb, none] ∧ Same H H' ∧ PotOk H' p 3 ∧ l ≤ 5 ∧ (4 < room → l ≤ 3), ?_, ?_⟩
      · refine ⟨_, rfl, by show 2 ≤ sizeLine; decide, fun q H4 s4 nq hq => ?_⟩
        refine ⟨_, rfl, _, _, rfl, rfl, .inr ⟨_, rfl, ?_⟩⟩
        obtain ⟨m, hq5, hm, hmm⟩ : ∃ m : Int, H4 q = some (.lst [.int 4, .int 6]) ∧ atI [V.int 4, V.int 6] (if decide ((room : Int) < 5) = true then 1 else 0) = some (.int m) ∧ (room < 5 ∧ m = 6 ∨ 5 ≤ room ∧ m = 4) := by
          by_cases c : room < 5
          · rw [decide_eq_true (by omega : (room : Int) < 5)]
            exact ⟨6, hq, rfl, .inl ⟨c, rfl⟩⟩
          · rw [decide_eq_false (by omega : ¬ (room : Int) < 5)]
            exact ⟨4, hq, rfl, .inr ⟨by omega, rfl⟩⟩
        refine ⟨q, _, _, _, rfl, rfl, SqL.of hq5, hm, p, m, _, rfl, by omega, by omega, hp3.same s4, by decide, fun H5 w5 b5 hp5 l5 u5 => ?_⟩
        refine ⟨_, _, rfl, rfl, w5.toNat, ?_, same_but (s3.trans s4) npH b5, hp5.le (by omega), by omega, fun z => by omega⟩
        rw [show ((w5.toNat + 1 : Nat) : Int) = 1 + w5 by omega]
        rfl
      rintro σ' H4 ⟨l, rfl, s4, hp4, l5, l3'⟩
      refine ⟨_, rfl, _, rfl, _, rfl, _, rfl, _, _, rfl, rfl, .inr ⟨_, rfl, ?_⟩⟩
      obtain ⟨wd, ewd, lwd⟩ : ∃ wd : Nat, (if decide (((l + 1 : Nat) : Int) < 5) = true then (1 : Int) else 0) = (wd : Int) ∧ (l + 1 < 5 ∧ wd = 1 ∨ 5 ≤ l + 1 ∧ wd = 0) := by
        by_cases c : l + 1 < 5
        · rw [decide_eq_true (by omega)]
          exact ⟨1, rfl, .inl ⟨c, rfl⟩⟩
        · rw [decide_eq_false (by omega)]
          exact ⟨0, rfl, .inr ⟨by omega, rfl⟩⟩
      have hcs : cS room l ≤ 600 ∨ wd = 0 ∧ room ≤ 4 := by
        rcases lwd with ⟨z, _⟩ | ⟨z, z2⟩
        · refine .inl ?_
          have y : ∀ r : Fin 9, ∀ k : Fin 4, cS r.1 k.1 ≤ 600 := by decide
          exact y ⟨room, by omega⟩ ⟨l, by omega⟩
        · exact .inr ⟨z2, by omega⟩
      refine ⟨p, room, l, wd, 3, by rw [← ewd]; rfl, by omega, r3, r8, by omega, hcs, hp4, by decide, fun H5 tv t S b5 hp5 hT hA => ?_⟩
      have s5 := same_but s4 npH b5
      refine ⟨_, rfl, tv, room, l, t, S, rfl, ⟨hT, hA⟩, by omega, fun H6 sv s6 hsv => ?_⟩
      have hA6 := hA.same s6
      refine ⟨_, rfl, tv, room, l, t, S, rfl, ⟨hT, hA6⟩, by omega, fun H7 s7 => ⟨true, rfl, iteF ?_⟩⟩
      refine ⟨_, rfl, tv, room, l, t, S, rfl, ⟨hT, hA6.same s7⟩, fun H8 rv S' s8 hsnd8 => ?_⟩
      refine ⟨rv, room, l, _, S', rfl, hsnd8, by omega, fun H9 sv2 s9 hsv2 => ?_⟩
      rw [ren_shp] at hsv2
      have s69 := (s7.trans s8).trans s9
      refine ⟨_, rfl, _, _, sh_dp hsv2, sh_dp (ShAt.keep (Keep.of s69) hsv), sh_shaped (by omega), sh_shaped (by omega), ?_⟩
      rw [SeqAt.eqv_refl _ sh_lay.1]
      refine ⟨false, rfl, iteF ?_⟩
      have hA9 := hA6.same s69
      have hp9 := (hp5.same s6).same s69
      have s09 := (s5.trans s6).trans s69
      have hcnt : (prs l t).length ≤ 100000 := by
        have ec : cntS l (shp l t) = (prs l t).length := cnt_prs
        have z1 := cnt_le hT.wf
        have z2 : cS room l ≤ 1365 := by
          rcases hcs with z | ⟨_, z4⟩
          · omega
          · have y : ∀ r : Fin 5, ∀ k : Fin 6, cS r.1 k.1 ≤ 1365 := by decide
            exact y ⟨room, by omega⟩ ⟨l, by omega⟩
        have z3 : room * cS room l ≤ 8 * 1365 := Nat.mul_le_mul r8 z2
        omega
      refine ⟨_, rfl, tv, room, l, t, S, rfl, ⟨hT, hA9⟩, by omega, hcnt, fun Ha g sa hg => ?_⟩
      obtain ⟨og, xg, hgf, hog, hgx⟩ := hg
      refine ⟨g, xg, rfl, .inr (sqF hgf), fun L0 Hb sb nL0 hL0 => ?_⟩
      refine ⟨40, rfl, L0, _, rfl, SqL.of hL0, fun L Hc sc nL hL => ?_⟩
      rw [show (40 : Int) = ((40 : Nat) : Int) from rfl, cut_to'] at hL
      have s9c := (sa.trans sb).trans sc
      have hzc : Paired (PrAt Hc) (xg.take 40) ((prs l t).take 40) := paired_take 40 (paired_imp (fun _ _ r => PrAt.keep (Keep.of (sb.trans sc)) r) hgx)
      have goodc : ∀ q ∈ (prs l t).take 40, GoodPr q := fun q hq => hT.good q (List.mem_of_mem_take hq)
      have lenc : ((prs l t).take 40).length ≤ 40 := by rw [List.length_take]; omega
      generalize xg.take 40 = z0 at hL hzc
      generalize (prs l t).take 40 = q0 at hzc goodc lenc
      have hpc := hp9.same s9c
      have s0c := s09.trans s9c
      have npL : p ≠ L := (hp9.same (sa.trans sb)).ne nL
      have zl := hzc.length
      have nLH : H L = none := by
        cases c : H L with
        | none => rfl
        | some o => exact nomatch ((s09.trans (sa.trans sb)) _ _ c).symm.trans nL
      refine ⟨_, rfl, L, _, rfl, .inl (SqL.of hL), _, rfl, by omega, by omega, fun M hM => ?_⟩
      have nML : L ≠ M := ne_of_none hL hM
      have npM : p ≠ M := hpc.ne hM
      have nMH : H M = none := Same.free s0c hM
      have hA9c := hA9.same s9c
      have hsvc := ShAt.keep (Keep.of (s69.trans s9c)) hsv
      have kO : ∀ {H' : Hp}, (∀ b o, b ≠ p → b ≠ L → b ≠ M → Hc b = some o → H' b = some o) → Keep Hc H' := fun st => ⟨fun b u tu e => st b u (fun z => by rw [z] at e; exact nomatch (hpc.noTup u e).symm.trans tu) (fun z => by rw [z, hL] at e; cases e; cases tu) (fun z => by rw [z, hM] at e; cases e) e⟩
      refine lc_it walk_range (fun j H' => (∀ b o, b ≠ p → b ≠ L → b ≠ M → Hc b = some o → H' b = some o) ∧ PotOk H' p (300000 + (j : Int)) ∧ ∃ (zs ms : List V) (rs qs : List (Int × Int)), H' L = some (.lst zs) ∧ Paired (PrAt H') zs rs ∧ rs.length + j = q0.length ∧ (∀ q ∈ rs, GoodPr q) ∧ H' M = some (.lst ms) ∧ Paired (PrAt H') ms qs ∧ qs.length = j ∧ ∀ q ∈ qs, GoodPr q)
        ⟨fun b o _ _ n3 e => by rw [upd_ne n3]; exact e, (hpc.put npM).le (by omega), z0, [], q0, [], by rw [upd_ne nML]; exact hL, paired_imp (fun _ _ r => PrAt.keep (Keep.of (same_new hM)) r) hzc, by omega, goodc, upd_same, .nil, rfl, fun q hq => nomatch hq⟩ (fun _ _ _ _ => trivial) ?_ ?_
      · rintro j x Hd He hj ⟨sd, hpd, zs, ms, rs, qs, hLd, hzd, erl, gr, hMd, hmd, eql, gq⟩ ⟨rfl, rfl⟩
        refine ⟨rfl, ?_⟩
        dsimp only [tYes]
        rw [if_pos rfl]
        have zl2 := hzd.length
        have hj' : j < z0.length := by omega
        refine ⟨_, rfl, .inl ⟨rfl, _, SqL.of hLd⟩, _, rfl, _, rfl, L, _, rfl, .inl (SqL.of hLd), ?_⟩
        refine ⟨p, (zs.length : Int), _, rfl, by omega, by omega, hpd, by omega, fun Hf w10 bf hpf lw uw => ?_⟩
        have kdf : Keep He Hf := hpd.keep bf
        have hLf := bf _ _ npL.symm hLd
        have hMf := bf _ _ npM.symm hMd
        have hzf := paired_imp (fun _ _ r => PrAt.keep kdf r) hzd
        have hmf := paired_imp (fun _ _ r => PrAt.keep kdf r) hmd
        obtain ⟨q, hq⟩ : ∃ q, rs[w10.toNat]? = some q := ⟨rs[w10.toNat]'(by omega), List.getElem?_eq_getElem _⟩
        obtain ⟨x0, hx0, rx⟩ := pget2 hzf hq
        refine ⟨L, _, w10, w10.toNat, x0, rfl, rfl, hLf, by omega, by omega, seqIndex_of lw (by omega), hx0, ?_⟩
        have k2 : Keep Hf (upd Hf L (.lst (zs.eraseIdx w10.toNat))) := (Keep.refl _).upd fun u e => by rw [hLf] at e; cases e; rfl
        have hL2 : upd Hf L (.lst (zs.eraseIdx w10.toNat)) L = some (.lst (zs.eraseIdx w10.toNat)) := upd_same
        have hM2 : upd Hf L (.lst (zs.eraseIdx w10.toNat)) M = some (.lst ms) := by rw [upd_ne nML.symm]; exact hMf
        have st2 : ∀ b o, b ≠ L → Hf b = some o → upd Hf L (.lst (zs.eraseIdx w10.toNat)) b = some o := fun b o n e => by rw [upd_ne n]; exact e
        have hp2 : PotOk (upd Hf L (.lst (zs.eraseIdx w10.toNat))) p (300000 + (j : Int) + 1) := hpf.put npL
        generalize upd Hf L (.lst (zs.eraseIdx w10.toNat)) = Hg at k2 hL2 hM2 st2 hp2
        have k3 : Keep Hg (upd Hg M (.lst (ms ++ [x0]))) := (Keep.refl _).upd fun u e => by rw [hM2] at e; cases e; rfl
        have k23 := k2.trans k3
        refine ⟨ms, hM2, ?_, ?_, (hp2.put npM).le (by omega), zs.eraseIdx w10.toNat, ms ++ [x0], rs.eraseIdx w10.toNat, qs ++ [q], ?_, paired_erase (paired_imp (fun _ _ r => PrAt.keep k23 r) hzf), ?_, fun q hq => gr q (List.mem_of_mem_eraseIdx hq), upd_same, paired_snoc (PrAt.keep k23 rx) (paired_imp (fun _ _ r => PrAt.keep k23 r) hmf), ?_, fun q' hq' => ?_⟩
        · have := hmd.length
          exact Nat.lt_of_le_of_lt (by omega : _ ≤ 100) (by decide)
        · intro b o n1 n2 n3 e
          rw [upd_ne n3]
          exact st2 _ _ n2 (bf _ _ n1 (sd b o n1 n2 n3 e))
        · rw [upd_ne nML]
          exact hL2
        · rw [List.length_eraseIdx_of_lt (by omega)]
          omega
        · rw [List.length_append, List.length_singleton, eql]
        · rcases List.mem_append.mp hq' with h | h
          · exact gq q' h
          · obtain rfl := List.mem_singleton.mp h
            exact gr q' (List.mem_of_getElem? hq)
      rintro Hd ⟨sd, hpd, zs, ms, rs, qs, hLd, hzd, erl, gr, hMd, hmd, eql, gq⟩
      have kcd := kO sd
      have sHd : Same H Hd := fun b o e => sd b o (fun z => by rw [z] at e; exact nomatch e.symm.trans npH) (fun z => by rw [z] at e; exact nomatch e.symm.trans nLH) (fun z => by rw [z] at e; exact nomatch e.symm.trans nMH) (s0c _ _ e)
      have hAd : TreeAt Hd tv room (num l t) S := by
        obtain ⟨a1, b1, o1, xs1, rfl, h1, h2, h3, h4⟩ := hA9c
        exact ⟨a1, b1, o1, xs1, rfl, kcd _ _ h1, kcd.frz h2, h3, paired_imp (fun _ _ r => NumAt.keep kcd r) h4⟩
      have hsvd := ShAt.keep kcd hsvc
      refine ⟨_, rfl, M, ms, rfl, SqL.of hMd, fun po Hx sx npo hpo => ?_⟩
      have hpoT : PrT Hx po qs := ⟨ms, hpo, paired_imp (fun _ _ r => PrAt.keep (Keep.of sx) r) hmd⟩
      refine ⟨_, rfl, rfl, rfl, po, room, qs, rfl, r3, r8, hpoT, gq, by omega, fun Hy ov l2 t2 S2 sy hP hpr hA2 => ?_⟩
      have hT2 := hP.tree
      have few2 : (prs l2 t2).length ≤ 100 := by
        rw [hpr]
        have z := plantP_len (qs := qs.reverse)
        rw [List.length_reverse] at z
        omega
      have ll2 := tree_low hT2 few2
      refine ⟨_, rfl, ov, room, l2, t2, S2, rfl, ⟨hT2, hA2⟩, by omega, fun Hz sz => ⟨true, rfl, iteF ?_⟩⟩
      have sdz := (sx.trans sy).trans sz
      have hpz := hpd.same sdz
      have hMz := sdz _ _ hMd
      have hmz := paired_imp (fun _ _ r => PrAt.keep (Keep.of sdz) r) hmd
      have hA2z := hA2.same sz
      have sHz := sHd.trans sdz
      refine ⟨_, rfl, _, rfl, p, 6, _, rfl, by decide, by decide, hpz, by omega, fun Hu wu bu hpu lu uu => ?_⟩
      have kzu : Keep Hz Hu := hpz.keep bu
      have hMu := bu _ _ npM.symm hMz
      refine ⟨wu, rfl, M, ms, rfl, SqL.of hMu, fun L3 Hw sw nL3 hL3 => ?_⟩
      rw [show wu = ((wu.toNat : Nat) : Int) by omega, cut_to'] at hL3
      have kzw := kzu.trans (Keep.of sw)
      have sHw := (same_but sHz npH bu).trans sw
      have hmw : Paired (PrAt Hw) (ms.take wu.toNat) (qs.take wu.toNat) := paired_take _ (paired_imp (fun _ _ r => PrAt.keep kzw r) hmz)
      have gqw : ∀ q ∈ qs.take wu.toNat, GoodPr q := fun q hq => gq q (List.mem_of_mem_take hq)
      generalize ms.take wu.toNat = m3 at hL3 hmw
      generalize qs.take wu.toNat = q3 at hmw gqw
      have keepT : ∀ {H1 H2 : Hp} (_ : Keep H1 H2) {v : V} {room root : Int} {S : List (Int × Pg)}, TreeAt H1 v room root S → TreeAt H2 v room root S := by
        rintro H1 H2 k v room root S ⟨a1, b1, o1, xs1, rfl, h1, h2, h3, h4⟩
        exact ⟨a1, b1, o1, xs1, rfl, k _ _ h1, k.frz h2, h3, paired_imp (fun _ _ r => NumAt.keep k r) h4⟩
      have hAw := keepT ((Keep.of sdz).trans kzw) hAd
      have hsvw := ShAt.keep ((Keep.of sdz).trans kzw) hsvd
      have hA2w := keepT kzw hA2z
      refine ⟨L3, rfl, ⟨_, SqL.of hL3⟩, ?_⟩
      refine for_it (walk_list (xs := m3)) (fun j σ H' => ∃ (ov : V) (l' : Nat) (t' : Tr l') (S' : List (Int × Pg)) (va vb : Option V), σ = [some (.ref a), some (.int (0 + (i : Nat))), some (.ref p), some (.int (room : Int)), some (.int ((l + 1 : Nat) : Int)), some tv, some sv, some (.ref L), some (.ref M), some ov, va, vb, none] ∧ Same Hw H' ∧ SndAt H' ov room l' t' S' ∧ l' ≤ 6) ⟨ov, l2, t2, S2, _, _, rfl, Same.refl _, ⟨hT2, hA2w⟩, ll2⟩ (fun j σ H' _ z => by
          obtain ⟨_, _, _, _, _, _, _, st, _⟩ := z
          exact SqL.of (st _ _ hL3)) ?_ ?_
      · rintro j x σ HA HB hj ⟨ov, l', t', S', va, vb, rfl, sA, hsA, lA⟩ ⟨rfl, hx⟩
        obtain ⟨q, hq, t, rfl, ht⟩ := pget1 hmw hx
        obtain ⟨g1, g2, _, _⟩ := gqw q (List.mem_of_getElem? hq)
        refine ⟨t, _, rfl, SqT.of (sA _ _ ht), rfl, _, _, rfl, _, _, rfl, rfl, ?_⟩
        refine ⟨_, rfl, _, rfl, ov, q.1, room, l', t', S', rfl, hsA, g1, g2, by omega, fun HC ar bt S4 sC har hs4 => ?_⟩
        refine ⟨ar, _, 0, _, rfl, rfl, SqT.of har, rfl, ?_⟩
        have lr := rootT_le (l := l') (t := delT ((room + 1) / 2) q.1 l' t')
        refine ⟨_, rfl, .ref bt, room, _, _, S4, rfl, hs4, by omega, fun HD sD => ⟨true, rfl, iteF ?_⟩⟩
        exact ⟨_, _, _, S4, _, _, rfl, (sA.trans sC).trans sD, ⟨hs4.tree, hs4.at_.same sD⟩, by omega⟩
      · rintro σ HA ⟨ov, l', t', S', va, vb, rfl, sA, hsA, lA⟩
        refine ⟨_, rfl, tv, room, l, t, S, rfl, ⟨hT, hAw.same sA⟩, by omega, fun HB sv3 sB hsv3 => ?_⟩
        refine ⟨_, rfl, _, _, sh_dp hsv3, sh_dp (ShAt.keep (Keep.of (sA.trans sB)) hsvw), sh_shaped (by omega), sh_shaped (by omega), ?_⟩
        rw [SeqAt.eqv_refl _ sh_lay.1]
        refine ⟨false, rfl, iteF ?_⟩
        exact ⟨_, _, _, _, _, _, _, _, _, _, _, rfl, (sHw.trans sA).trans sB⟩
    · rintro σ H1 ⟨v1, v2, v3, v4, v5, v6, v7, v8, v9, va, vb, rfl, s1⟩
      exact kq H1
end
end K29

namespace K29
open PySem PySem.Spec PyProof.Rows L2 RZ HX
def d_is_whole : He.DefD := ⟨("is_whole", none), "is_whole", "is_whole", defArgs s_is_whole, defBody s_is_whole, defScope s_is_whole, [], []⟩
def d_is_between : He.DefD := ⟨("is_between", none), "is_between", "is_between", defArgs s_is_between, defBody s_is_between, defScope s_is_between, [], []⟩
def d_is_row : He.DefD := ⟨("is_row", none), "is_row", "is_row", defArgs s_is_row, defBody s_is_row, defScope s_is_row, [], []⟩
def d_is_key : He.DefD := ⟨("is_key", none), "is_key", "is_key", defArgs s_is_key, defBody s_is_key, defScope s_is_key, [], []⟩
def d_is_value : He.DefD := ⟨("is_value", none), "is_value", "is_value", defArgs s_is_value, defBody s_is_value, defScope s_is_value, [], []⟩
def d_is_room : He.DefD := ⟨("is_room", none), "is_room", "is_room", defArgs s_is_room, defBody s_is_room, defScope s_is_room, [], []⟩
def d_half_of : He.DefD := ⟨("half_of", none), "half_of", "half_of", defArgs s_half_of, defBody s_half_of, defScope s_half_of, [], []⟩
def d_is_pair : He.DefD := ⟨("is_pair", none), "is_pair", "is_pair", defArgs s_is_pair, defBody s_is_pair, defScope s_is_pair, [], []⟩
def d_are_pairs : He.DefD := ⟨("are_pairs", none), "are_pairs", "are_pairs", defArgs s_are_pairs, defBody s_are_pairs, defScope s_are_pairs, [], []⟩
def d_are_rising : He.DefD := ⟨("are_rising", none), "are_rising", "are_rising", defArgs s_are_rising, defBody s_are_rising, defScope s_are_rising, [], []⟩
def d_are_rising_pairs : He.DefD := ⟨("are_rising_pairs", none), "are_rising_pairs", "are_rising_pairs", defArgs s_are_rising_pairs, defBody s_are_rising_pairs, defScope s_are_rising_pairs, [], []⟩
def d_is_page_number : He.DefD := ⟨("is_page_number", none), "is_page_number", "is_page_number", defArgs s_is_page_number, defBody s_is_page_number, defScope s_is_page_number, [], []⟩
def d_is_leaf : He.DefD := ⟨("is_leaf", none), "is_leaf", "is_leaf", defArgs s_is_leaf, defBody s_is_leaf, defScope s_is_leaf, [], []⟩
def d_is_node : He.DefD := ⟨("is_node", none), "is_node", "is_node", defArgs s_is_node, defBody s_is_node, defScope s_is_node, [], []⟩
def d_is_page : He.DefD := ⟨("is_page", none), "is_page", "is_page", defArgs s_is_page, defBody s_is_page, defScope s_is_page, [], []⟩
def d_parts_of : He.DefD := ⟨("parts_of", none), "parts_of", "parts_of", defArgs s_parts_of, defBody s_parts_of, defScope s_parts_of, [], []⟩
def d_is_numbered_page : He.DefD := ⟨("is_numbered_page", none), "is_numbered_page", "is_numbered_page", defArgs s_is_numbered_page, defBody s_is_numbered_page, defScope s_is_numbered_page, [], []⟩
def d_are_numbered_pages : He.DefD := ⟨("are_numbered_pages", none), "are_numbered_pages", "are_numbered_pages", defArgs s_are_numbered_pages, defBody s_are_numbered_pages, defScope s_are_numbered_pages, [], []⟩
def d_levels_from : He.DefD := ⟨("levels_from", none), "levels_from", "levels_from", defArgs s_levels_from, defBody s_levels_from, defScope s_levels_from, [], []⟩
def d_sizes_fit : He.DefD := ⟨("sizes_fit", none), "sizes_fit", "sizes_fit", defArgs s_sizes_fit, defBody s_sizes_fit, defScope s_sizes_fit, [], []⟩
def d_bounds_of : He.DefD := ⟨("bounds_of", none), "bounds_of", "bounds_of", defArgs s_bounds_of, defBody s_bounds_of, defScope s_bounds_of, [], []⟩
def d_keys_fit : He.DefD := ⟨("keys_fit", none), "keys_fit", "keys_fit", defArgs s_keys_fit, defBody s_keys_fit, defScope s_keys_fit, [], []⟩
def d_nexts_fit : He.DefD := ⟨("nexts_fit", none), "nexts_fit", "nexts_fit", defArgs s_nexts_fit, defBody s_nexts_fit, defScope s_nexts_fit, [], []⟩
def d_is_sound : He.DefD := ⟨("is_sound", none), "is_sound", "is_sound", defArgs s_is_sound, defBody s_is_sound, defScope s_is_sound, [], []⟩
def d_need_room : He.DefD := ⟨("need_room", none), "need_room", "need_room", defArgs s_need_room, defBody s_need_room, defScope s_need_room, [], []⟩
def d_need_key : He.DefD := ⟨("need_key", none), "need_key", "need_key", defArgs s_need_key, defBody s_need_key, defScope s_need_key, [], []⟩
def d_need_tree : He.DefD := ⟨("need_tree", none), "need_tree", "need_tree", defArgs s_need_tree, defBody s_need_tree, defScope s_need_tree, [], []⟩
def d_empty : He.DefD := ⟨("empty", none), "empty", "empty", defArgs s_empty, defBody s_empty, defScope s_empty, [], [("room", (He.Dv.int 4))]⟩
def d_shape_of : He.DefD := ⟨("shape_of", none), "shape_of", "shape_of", defArgs s_shape_of, defBody s_shape_of, defScope s_shape_of, [], []⟩
def d_shape_beneath : He.DefD := ⟨("shape_beneath", none), "shape_beneath", "shape_beneath", defArgs s_shape_beneath, defBody s_shape_beneath, defScope s_shape_beneath, [], []⟩
def d_joined : He.DefD := ⟨("joined", none), "joined", "joined", defArgs s_joined, defBody s_joined, defScope s_joined, [], []⟩
def d_parted : He.DefD := ⟨("parted", none), "parted", "parted", defArgs s_parted, defBody s_parted, defScope s_parted, [], []⟩
def d_kid_place : He.DefD := ⟨("kid_place", none), "kid_place", "kid_place", defArgs s_kid_place, defBody s_kid_place, defScope s_kid_place, [], []⟩
def d_value_in : He.DefD := ⟨("value_in", none), "value_in", "value_in", defArgs s_value_in, defBody s_value_in, defScope s_value_in, [], []⟩
def d_mate_in : He.DefD := ⟨("mate_in", none), "mate_in", "mate_in", defArgs s_mate_in, defBody s_mate_in, defScope s_mate_in, [], []⟩
def d_Book_init : He.DefD := ⟨("Book", some "__init__"), "__init__", "Book.__init__", defArgs s_Book_init, defBody s_Book_init, defScope s_Book_init, [], []⟩
def d_Book_tree : He.DefD := ⟨("Book", some "tree"), "tree", "Book.tree", defArgs s_Book_tree, defBody s_Book_tree, defScope s_Book_tree, [], []⟩
def d_Book_way : He.DefD := ⟨("Book", some "way"), "way", "Book.way", defArgs s_Book_way, defBody s_Book_way, defScope s_Book_way, [], []⟩
def d_Book_many_parts : He.DefD := ⟨("Book", some "many_parts"), "many_parts", "Book.many_parts", defArgs s_Book_many_parts, defBody s_Book_many_parts, defScope s_Book_many_parts, [], []⟩
def d_Book_has_key : He.DefD := ⟨("Book", some "has_key"), "has_key", "Book.has_key", defArgs s_Book_has_key, defBody s_Book_has_key, defScope s_Book_has_key, [], []⟩
def d_Book_free_number : He.DefD := ⟨("Book", some "free_number"), "free_number", "Book.free_number", defArgs s_Book_free_number, defBody s_Book_free_number, defScope s_Book_free_number, [], []⟩
def d_drop : He.DefD := ⟨("drop", none), "drop", "drop", defArgs s_drop, defBody s_drop, defScope s_drop, [], []⟩
def d_drop_in : He.DefD := ⟨("drop_in", none), "drop_in", "drop_in", defArgs s_drop_in, defBody s_drop_in, defScope s_drop_in, [], []⟩
def d_fill_up : He.DefD := ⟨("fill_up", none), "fill_up", "fill_up", defArgs s_fill_up, defBody s_fill_up, defScope s_fill_up, [], []⟩
def d_mend : He.DefD := ⟨("mend", none), "mend", "mend", defArgs s_mend, defBody s_mend, defScope s_mend, [], []⟩
def d_put_in : He.DefD := ⟨("put_in", none), "put_in", "put_in", defArgs s_put_in, defBody s_put_in, defScope s_put_in, [], []⟩
def d_part_up : He.DefD := ⟨("part_up", none), "part_up", "part_up", defArgs s_part_up, defBody s_part_up, defScope s_part_up, [], []⟩
def d_part : He.DefD := ⟨("part", none), "part", "part", defArgs s_part, defBody s_part, defScope s_part, [], []⟩
def d_add_kid : He.DefD := ⟨("add_kid", none), "add_kid", "add_kid", defArgs s_add_kid, defBody s_add_kid, defScope s_add_kid, [], []⟩
def d_planted : He.DefD := ⟨("planted", none), "planted", "planted", defArgs s_planted, defBody s_planted, defScope s_planted, [], [("room", (He.Dv.int 4))]⟩
def d_law_pot : He.DefD := ⟨("_law_pot", none), "_law_pot", "_law_pot", defArgs s_law_pot, defBody s_law_pot, defScope s_law_pot, [], []⟩
def d_law_take : He.DefD := ⟨("_law_take", none), "_law_take", "_law_take", defArgs s_law_take, defBody s_law_take, defScope s_law_take, [], []⟩
def d_law_shape : He.DefD := ⟨("_law_shape", none), "_law_shape", "_law_shape", defArgs s_law_shape, defBody s_law_shape, defScope s_law_shape, [], []⟩
def d_law_many : He.DefD := ⟨("_law_many", none), "_law_many", "_law_many", defArgs s_law_many, defBody s_law_many, defScope s_law_many, [], []⟩
def d_law_pages : He.DefD := ⟨("_law_pages", none), "_law_pages", "_law_pages", defArgs s_law_pages, defBody s_law_pages, defScope s_law_pages, [], []⟩
def d_law_pairs : He.DefD := ⟨("_law_pairs", none), "_law_pairs", "_law_pairs", defArgs s_law_pairs, defBody s_law_pairs, defScope s_law_pairs, [], []⟩
def d_law_laid : He.DefD := ⟨("_law_laid", none), "_law_laid", "_law_laid", defArgs s_law_laid, defBody s_law_laid, defScope s_law_laid, [], []⟩
def d_law_leaves : He.DefD := ⟨("_law_leaves", none), "_law_leaves", "_law_leaves", defArgs s_law_leaves, defBody s_law_leaves, defScope s_law_leaves, [], []⟩
def d_law_tree : He.DefD := ⟨("_law_tree", none), "_law_tree", "_law_tree", defArgs s_law_tree, defBody s_law_tree, defScope s_law_tree, [], []⟩
def d_law_pairs_of : He.DefD := ⟨("_law_pairs_of", none), "_law_pairs_of", "_law_pairs_of", defArgs s_law_pairs_of, defBody s_law_pairs_of, defScope s_law_pairs_of, [], []⟩
def d_law_same : He.DefD := ⟨("_law_same", none), "_law_same", "_law_same", defArgs s_law_same, defBody s_law_same, defScope s_law_same, [], []⟩
def d_law_walked : He.DefD := ⟨("_law_walked", none), "_law_walked", "_law_walked", defArgs s_law_walked, defBody s_law_walked, defScope s_law_walked, [], []⟩
def d_law_right : He.DefD := ⟨("_law_right", none), "_law_right", "_law_right", defArgs s_law_right, defBody s_law_right, defScope s_law_right, [], []⟩
def d_law_renamed : He.DefD := ⟨("_law_renamed", none), "_law_renamed", "_law_renamed", defArgs s_law_renamed, defBody s_law_renamed, defScope s_law_renamed, [], []⟩
def d_law : He.DefD := ⟨("law", none), "law", "law", defArgs s_law, defBody s_law, defScope s_law, [], []⟩
def fn : List He.DefD := [d_is_whole, d_is_between, d_is_row, d_is_key, d_is_value, d_is_room, d_half_of, d_is_pair, d_are_pairs, d_are_rising, d_are_rising_pairs, d_is_page_number, d_is_leaf, d_is_node, d_is_page, d_parts_of, d_is_numbered_page, d_are_numbered_pages, d_levels_from, d_sizes_fit, d_bounds_of, d_keys_fit, d_nexts_fit, d_is_sound, d_need_room, d_need_key, d_need_tree, d_empty, d_shape_of, d_shape_beneath, d_joined, d_parted, d_kid_place, d_value_in, d_mate_in, d_Book_init, d_Book_tree, d_Book_way, d_Book_many_parts, d_Book_has_key, d_Book_free_number, d_drop, d_drop_in, d_fill_up, d_mend, d_put_in, d_part_up, d_part, d_add_kid, d_planted, d_law_pot, d_law_take, d_law_shape, d_law_many, d_law_pages, d_law_pairs, d_law_laid, d_law_leaves, d_law_tree, d_law_pairs_of, d_law_same, d_law_walked, d_law_right, d_law_renamed, d_law]
def fa : List He.Fa := [.glo "is_whole", .glo "is_between", .glo "is_row", .glo "is_key", .glo "is_value", .glo "is_room", .glo "half_of", .glo "is_pair", .glo "are_pairs", .glo "are_rising", .glo "are_rising_pairs", .glo "is_page_number", .glo "is_leaf", .glo "is_node", .glo "is_page", .glo "parts_of", .glo "is_numbered_page", .glo "are_numbered_pages", .glo "levels_from", .glo "sizes_fit", .glo "bounds_of", .glo "keys_fit", .glo "nexts_fit", .glo "is_sound", .glo "need_room", .glo "need_key", .glo "need_tree", .glo "empty", .glo "shape_of", .glo "shape_beneath", .glo "joined", .glo "parted", .glo "kid_place", .glo "value_in", .glo "mate_in", .meth "Book" "tree", .meth "Book" "way", .meth "Book" "many_parts", .meth "Book" "has_key", .meth "Book" "free_number", .glo "drop", .glo "drop_in", .glo "fill_up", .glo "mend", .glo "put_in", .glo "part_up", .glo "part", .glo "add_kid", .glo "planted", .glo "_law_pot", .glo "_law_take", .glo "_law_shape", .glo "_law_many", .glo "_law_pages", .glo "_law_pairs", .glo "_law_laid", .glo "_law_leaves", .glo "_law_tree", .glo "_law_pairs_of", .glo "_law_same", .glo "_law_walked", .glo "_law_right", .glo "_law_renamed", .glo "law", .glo "GroveError", .glo "NoRoom", .glo "NoKey", .glo "NoTree", .glo "NoPairs", .glo "Book", .cls "Book", .mkr "Book", .noat "Book" "room", .noat "Book" "root", .noat "Book" "half", .noat "Book" "pages", .int "GREATEST" 1000000000, .int "LAST_PAGE" 1000000, .int "LEAST_ROOM" 3, .int "GREATEST_ROOM" 8, .int "ROOM" 4, .free "abs", .free "all", .free "bool", .free "dict", .free "int", .free "isinstance", .free "len", .free "list", .free "max", .free "min", .free "range", .free "sorted", .free "str", .free "sum", .free "tuple", .free "zip"]
theorem tx {K : PySem.W.Frag} {h : Heap} {mg : Str → Option Value} (X : K.In h) (G : h.Ns mainGlobals mg) (c : He.SaysD fa fn K) : Nonempty (TX K mg) := by
  obtain ⟨fd_is_whole, F_is_whole⟩ := c.def_ 0 (d := d_is_whole) rfl
  obtain ⟨fd_is_between, F_is_between⟩ := c.def_ 1 (d := d_is_between) rfl
  obtain ⟨fd_is_row, F_is_row⟩ := c.def_ 2 (d := d_is_row) rfl
  obtain ⟨fd_is_key, F_is_key⟩ := c.def_ 3 (d := d_is_key) rfl
  obtain ⟨fd_is_value, F_is_value⟩ := c.def_ 4 (d := d_is_value) rfl
  obtain ⟨fd_is_room, F_is_room⟩ := c.def_ 5 (d := d_is_room) rfl
  obtain ⟨fd_half_of, F_half_of⟩ := c.def_ 6 (d := d_half_of) rfl
  obtain ⟨fd_is_pair, F_is_pair⟩ := c.def_ 7 (d := d_is_pair) rfl
  obtain ⟨fd_are_pairs, F_are_pairs⟩ := c.def_ 8 (d := d_are_pairs) rfl
  obtain ⟨fd_are_rising, F_are_rising⟩ := c.def_ 9 (d := d_are_rising) rfl
  obtain ⟨fd_are_rising_pairs, F_are_rising_pairs⟩ := c.def_ 10 (d := d_are_rising_pairs) rfl
  obtain ⟨fd_is_page_number, F_is_page_number⟩ := c.def_ 11 (d := d_is_page_number) rfl
  obtain ⟨fd_is_leaf, F_is_leaf⟩ := c.def_ 12 (d := d_is_leaf) rfl
  obtain ⟨fd_is_node, F_is_node⟩ := c.def_ 13 (d := d_is_node) rfl
  obtain ⟨fd_is_page, F_is_page⟩ := c.def_ 14 (d := d_is_page) rfl
  obtain ⟨fd_parts_of, F_parts_of⟩ := c.def_ 15 (d := d_parts_of) rfl
  obtain ⟨fd_is_numbered_page, F_is_numbered_page⟩ := c.def_ 16 (d := d_is_numbered_page) rfl
  obtain ⟨fd_are_numbered_pages, F_are_numbered_pages⟩ := c.def_ 17 (d := d_are_numbered_pages) rfl
  obtain ⟨fd_levels_from, F_levels_from⟩ := c.def_ 18 (d := d_levels_from) rfl
  obtain ⟨fd_sizes_fit, F_sizes_fit⟩ := c.def_ 19 (d := d_sizes_fit) rfl
  obtain ⟨fd_bounds_of, F_bounds_of⟩ := c.def_ 20 (d := d_bounds_of) rfl
  obtain ⟨fd_keys_fit, F_keys_fit⟩ := c.def_ 21 (d := d_keys_fit) rfl
  obtain ⟨fd_nexts_fit, F_nexts_fit⟩ := c.def_ 22 (d := d_nexts_fit) rfl
  obtain ⟨fd_is_sound, F_is_sound⟩ := c.def_ 23 (d := d_is_sound) rfl
  obtain ⟨fd_need_room, F_need_room⟩ := c.def_ 24 (d := d_need_room) rfl
  obtain ⟨fd_need_key, F_need_key⟩ := c.def_ 25 (d := d_need_key) rfl
  obtain ⟨fd_need_tree, F_need_tree⟩ := c.def_ 26 (d := d_need_tree) rfl
  obtain ⟨fd_empty, F_empty⟩ := c.def_ 27 (d := d_empty) rfl
  obtain ⟨fd_shape_of, F_shape_of⟩ := c.def_ 28 (d := d_shape_of) rfl
  obtain ⟨fd_shape_beneath, F_shape_beneath⟩ := c.def_ 29 (d := d_shape_beneath) rfl
  obtain ⟨fd_joined, F_joined⟩ := c.def_ 30 (d := d_joined) rfl
  obtain ⟨fd_parted, F_parted⟩ := c.def_ 31 (d := d_parted) rfl
  obtain ⟨fd_kid_place, F_kid_place⟩ := c.def_ 32 (d := d_kid_place) rfl
  obtain ⟨fd_value_in, F_value_in⟩ := c.def_ 33 (d := d_value_in) rfl
  obtain ⟨fd_mate_in, F_mate_in⟩ := c.def_ 34 (d := d_mate_in) rfl
  obtain ⟨fd_Book_init, F_Book_init⟩ := c.def_ 35 (d := d_Book_init) rfl
  obtain ⟨fd_Book_tree, F_Book_tree⟩ := c.def_ 36 (d := d_Book_tree) rfl
  obtain ⟨fd_Book_way, F_Book_way⟩ := c.def_ 37 (d := d_Book_way) rfl
  obtain ⟨fd_Book_many_parts, F_Book_many_parts⟩ := c.def_ 38 (d := d_Book_many_parts) rfl
  obtain ⟨fd_Book_has_key, F_Book_has_key⟩ := c.def_ 39 (d := d_Book_has_key) rfl
  obtain ⟨fd_Book_free_number, F_Book_free_number⟩ := c.def_ 40 (d := d_Book_free_number) rfl
  obtain ⟨fd_drop, F_drop⟩ := c.def_ 41 (d := d_drop) rfl
  obtain ⟨fd_drop_in, F_drop_in⟩ := c.def_ 42 (d := d_drop_in) rfl
  obtain ⟨fd_fill_up, F_fill_up⟩ := c.def_ 43 (d := d_fill_up) rfl
  obtain ⟨fd_mend, F_mend⟩ := c.def_ 44 (d := d_mend) rfl
  obtain ⟨fd_put_in, F_put_in⟩ := c.def_ 45 (d := d_put_in) rfl
  obtain ⟨fd_part_up, F_part_up⟩ := c.def_ 46 (d := d_part_up) rfl
  obtain ⟨fd_part, F_part⟩ := c.def_ 47 (d := d_part) rfl
  obtain ⟨fd_add_kid, F_add_kid⟩ := c.def_ 48 (d := d_add_kid) rfl
  obtain ⟨fd_planted, F_planted⟩ := c.def_ 49 (d := d_planted) rfl
  obtain ⟨fd_law_pot, F_law_pot⟩ := c.def_ 50 (d := d_law_pot) rfl
  obtain ⟨fd_law_take, F_law_take⟩ := c.def_ 51 (d := d_law_take) rfl
  obtain ⟨fd_law_shape, F_law_shape⟩ := c.def_ 52 (d := d_law_shape) rfl
  obtain ⟨fd_law_many, F_law_many⟩ := c.def_ 53 (d := d_law_many) rfl
  obtain ⟨fd_law_pages, F_law_pages⟩ := c.def_ 54 (d := d_law_pages) rfl
  obtain ⟨fd_law_pairs, F_law_pairs⟩ := c.def_ 55 (d := d_law_pairs) rfl
  obtain ⟨fd_law_laid, F_law_laid⟩ := c.def_ 56 (d := d_law_laid) rfl
  obtain ⟨fd_law_leaves, F_law_leaves⟩ := c.def_ 57 (d := d_law_leaves) rfl
  obtain ⟨fd_law_tree, F_law_tree⟩ := c.def_ 58 (d := d_law_tree) rfl
  obtain ⟨fd_law_pairs_of, F_law_pairs_of⟩ := c.def_ 59 (d := d_law_pairs_of) rfl
  obtain ⟨fd_law_same, F_law_same⟩ := c.def_ 60 (d := d_law_same) rfl
  obtain ⟨fd_law_walked, F_law_walked⟩ := c.def_ 61 (d := d_law_walked) rfl
  obtain ⟨fd_law_right, F_law_right⟩ := c.def_ 62 (d := d_law_right) rfl
  obtain ⟨fd_law_renamed, F_law_renamed⟩ := c.def_ 63 (d := d_law_renamed) rfl
  obtain ⟨fd_law, F_law⟩ := c.def_ 64 (d := d_law) rfl
  exact ⟨{ fd_is_whole := fd_is_whole, F_is_whole := F_is_whole, g_is_whole := He.glo_ok X G (c.fact 0 (f := .glo "is_whole") rfl), fd_is_between := fd_is_between, F_is_between := F_is_between, g_is_between := He.glo_ok X G (c.fact 1 (f := .glo "is_between") rfl), fd_is_row := fd_is_row, F_is_row := F_is_row, g_is_row := He.glo_ok X G (c.fact 2 (f := .glo "is_row") rfl), fd_is_key := fd_is_key, F_is_key := F_is_key, g_is_key := He.glo_ok X G (c.fact 3 (f := .glo "is_key") rfl), fd_is_value := fd_is_value, F_is_value := F_is_value, g_is_value := He.glo_ok X G (c.fact 4 (f := .glo "is_value") rfl), fd_is_room := fd_is_room, F_is_room := F_is_room, g_is_room := He.glo_ok X G (c.fact 5 (f := .glo "is_room") rfl), fd_half_of := fd_half_of, F_half_of := F_half_of, g_half_of := He.glo_ok X G (c.fact 6 (f := .glo "half_of") rfl), fd_is_pair := fd_is_pair, F_is_pair := F_is_pair, g_is_pair := He.glo_ok X G (c.fact 7 (f := .glo "is_pair") rfl), fd_are_pairs := fd_are_pairs, F_are_pairs := F_are_pairs, g_are_pairs := He.glo_ok X G (c.fact 8 (f := .glo "are_pairs") rfl), fd_are_rising := fd_are_rising, F_are_rising := F_are_rising, g_are_rising := He.glo_ok X G (c.fact 9 (f := .glo "are_rising") rfl), fd_are_rising_pairs := fd_are_rising_pairs, F_are_rising_pairs := F_are_rising_pairs, g_are_rising_pairs := He.glo_ok X G (c.fact 10 (f := .glo "are_rising_pairs") rfl), fd_is_page_number := fd_is_page_number, F_is_page_number := F_is_page_number, g_is_page_number := He.glo_ok X G (c.fact 11 (f := .glo "is_page_number") rfl), fd_is_leaf := fd_is_leaf, F_is_leaf := F_is_leaf, g_is_leaf := He.glo_ok X G (c.fact 12 (f := .glo "is_leaf") rfl), fd_is_node := fd_is_node, F_is_node := F_is_node, g_is_node := He.glo_ok X G (c.fact 13 (f := .glo "is_node") rfl), fd_is_page := fd_is_page, F_is_page := F_is_page, g_is_page := He.glo_ok X G (c.fact 14 (f := .glo "is_page") rfl), fd_parts_of := fd_parts_of, F_parts_of := F_parts_of, g_parts_of := He.glo_ok X G (c.fact 15 (f := .glo "parts_of") rfl), fd_is_numbered_page := fd_is_numbered_page, F_is_numbered_page := F_is_numbered_page, g_is_numbered_page := He.glo_ok X G (c.fact 16 (f := .glo "is_numbered_page") rfl), fd_are_numbered_pages := fd_are_numbered_pages, F_are_numbered_pages := F_are_numbered_pages, g_are_numbered_pages := He.glo_ok X G (c.fact 17 (f := .glo "are_numbered_pages") rfl), fd_levels_from := fd_levels_from, F_levels_from := F_levels_from, g_levels_from := He.glo_ok X G (c.fact 18 (f := .glo "levels_from") rfl), fd_sizes_fit := fd_sizes_fit, F_sizes_fit := F_sizes_fit, g_sizes_fit := He.glo_ok X G (c.fact 19 (f := .glo "sizes_fit") rfl), fd_bounds_of := fd_bounds_of, F_bounds_of := F_bounds_of, g_bounds_of := He.glo_ok X G (c.fact 20 (f := .glo "bounds_of") rfl), fd_keys_fit := fd_keys_fit, F_keys_fit := F_keys_fit, g_keys_fit := He.glo_ok X G (c.fact 21 (f := .glo "keys_fit") rfl), fd_nexts_fit := fd_nexts_fit, F_nexts_fit := F_nexts_fit, g_nexts_fit := He.glo_ok X G (c.fact 22 (f := .glo "nexts_fit") rfl), fd_is_sound := fd_is_sound, F_is_sound := F_is_sound, g_is_sound := He.glo_ok X G (c.fact 23 (f := .glo "is_sound") rfl), fd_need_room := fd_need_room, F_need_room := F_need_room, g_need_room := He.glo_ok X G (c.fact 24 (f := .glo "need_room") rfl), fd_need_key := fd_need_key, F_need_key := F_need_key, g_need_key := He.glo_ok X G (c.fact 25 (f := .glo "need_key") rfl), fd_need_tree := fd_need_tree, F_need_tree := F_need_tree, g_need_tree := He.glo_ok X G (c.fact 26 (f := .glo "need_tree") rfl), fd_empty := fd_empty, F_empty := F_empty, g_empty := He.glo_ok X G (c.fact 27 (f := .glo "empty") rfl), fd_shape_of := fd_shape_of, F_shape_of := F_shape_of, g_shape_of := He.glo_ok X G (c.fact 28 (f := .glo "shape_of") rfl), fd_shape_beneath := fd_shape_beneath, F_shape_beneath := F_shape_beneath, g_shape_beneath := He.glo_ok X G (c.fact 29 (f := .glo "shape_beneath") rfl), fd_joined := fd_joined, F_joined := F_joined, g_joined := He.glo_ok X G (c.fact 30 (f := .glo "joined") rfl), fd_parted := fd_parted, F_parted := F_parted, g_parted := He.glo_ok X G (c.fact 31 (f := .glo "parted") rfl), fd_kid_place := fd_kid_place, F_kid_place := F_kid_place, g_kid_place := He.glo_ok X G (c.fact 32 (f := .glo "kid_place") rfl), fd_value_in := fd_value_in, F_value_in := F_value_in, g_value_in := He.glo_ok X G (c.fact 33 (f := .glo "value_in") rfl), fd_mate_in := fd_mate_in, F_mate_in := F_mate_in, g_mate_in := He.glo_ok X G (c.fact 34 (f := .glo "mate_in") rfl), fd_Book_init := fd_Book_init, F_Book_init := F_Book_init, fd_Book_tree := fd_Book_tree, F_Book_tree := F_Book_tree, m_Book_tree := He.meth_ok (c.fact 35 (f := .meth "Book" "tree") rfl), fd_Book_way := fd_Book_way, F_Book_way := F_Book_way, m_Book_way := He.meth_ok (c.fact 36 (f := .meth "Book" "way") rfl), fd_Book_many_parts := fd_Book_many_parts, F_Book_many_parts := F_Book_many_parts, m_Book_many_parts := He.meth_ok (c.fact 37 (f := .meth "Book" "many_parts") rfl), fd_Book_has_key := fd_Book_has_key, F_Book_has_key := F_Book_has_key, m_Book_has_key := He.meth_ok (c.fact 38 (f := .meth "Book" "has_key") rfl), fd_Book_free_number := fd_Book_free_number, F_Book_free_number := F_Book_free_number, m_Book_free_number := He.meth_ok (c.fact 39 (f := .meth "Book" "free_number") rfl), fd_drop := fd_drop, F_drop := F_drop, g_drop := He.glo_ok X G (c.fact 40 (f := .glo "drop") rfl), fd_drop_in := fd_drop_in, F_drop_in := F_drop_in, g_drop_in := He.glo_ok X G (c.fact 41 (f := .glo "drop_in") rfl), fd_fill_up := fd_fill_up, F_fill_up := F_fill_up, g_fill_up := He.glo_ok X G (c.fact 42 (f := .glo "fill_up") rfl), fd_mend := fd_mend, F_mend := F_mend, g_mend := He.glo_ok X G (c.fact 43 (f := .glo "mend") rfl), fd_put_in := fd_put_in, F_put_in := F_put_in, g_put_in := He.glo_ok X G (c.fact 44 (f := .glo "put_in") rfl), fd_part_up := fd_part_up, F_part_up := F_part_up, g_part_up := He.glo_ok X G (c.fact 45 (f := .glo "part_up") rfl), fd_part := fd_part, F_part := F_part, g_part := He.glo_ok X G (c.fact 46 (f := .glo "part") rfl), fd_add_kid := fd_add_kid, F_add_kid := F_add_kid, g_add_kid := He.glo_ok X G (c.fact 47 (f := .glo "add_kid") rfl), fd_planted := fd_planted, F_planted := F_planted, g_planted := He.glo_ok X G (c.fact 48 (f := .glo "planted") rfl), fd_law_pot := fd_law_pot, F_law_pot := F_law_pot, g_law_pot := He.glo_ok X G (c.fact 49 (f := .glo "_law_pot") rfl), fd_law_take := fd_law_take, F_law_take := F_law_take, g_law_take := He.glo_ok X G (c.fact 50 (f := .glo "_law_take") rfl), fd_law_shape := fd_law_shape, F_law_shape := F_law_shape, g_law_shape := He.glo_ok X G (c.fact 51 (f := .glo "_law_shape") rfl), fd_law_many := fd_law_many, F_law_many := F_law_many, g_law_many := He.glo_ok X G (c.fact 52 (f := .glo "_law_many") rfl), fd_law_pages := fd_law_pages, F_law_pages := F_law_pages, g_law_pages := He.glo_ok X G (c.fact 53 (f := .glo "_law_pages") rfl), fd_law_pairs := fd_law_pairs, F_law_pairs := F_law_pairs, g_law_pairs := He.glo_ok X G (c.fact 54 (f := .glo "_law_pairs") rfl), fd_law_laid := fd_law_laid, F_law_laid := F_law_laid, g_law_laid := He.glo_ok X G (c.fact 55 (f := .glo "_law_laid") rfl), fd_law_leaves := fd_law_leaves, F_law_leaves := F_law_leaves, g_law_leaves := He.glo_ok X G (c.fact 56 (f := .glo "_law_leaves") rfl), fd_law_tree := fd_law_tree, F_law_tree := F_law_tree, g_law_tree := He.glo_ok X G (c.fact 57 (f := .glo "_law_tree") rfl), fd_law_pairs_of := fd_law_pairs_of, F_law_pairs_of := F_law_pairs_of, g_law_pairs_of := He.glo_ok X G (c.fact 58 (f := .glo "_law_pairs_of") rfl), fd_law_same := fd_law_same, F_law_same := F_law_same, g_law_same := He.glo_ok X G (c.fact 59 (f := .glo "_law_same") rfl), fd_law_walked := fd_law_walked, F_law_walked := F_law_walked, g_law_walked := He.glo_ok X G (c.fact 60 (f := .glo "_law_walked") rfl), fd_law_right := fd_law_right, F_law_right := F_law_right, g_law_right := He.glo_ok X G (c.fact 61 (f := .glo "_law_right") rfl), fd_law_renamed := fd_law_renamed, F_law_renamed := F_law_renamed, g_law_renamed := He.glo_ok X G (c.fact 62 (f := .glo "_law_renamed") rfl), fd_law := fd_law, F_law := F_law, g_law := He.glo_ok X G (c.fact 63 (f := .glo "law") rfl), g_GroveError := He.glo_ok X G (c.fact 64 (f := .glo "GroveError") rfl), g_NoRoom := He.glo_ok X G (c.fact 65 (f := .glo "NoRoom") rfl), g_NoKey := He.glo_ok X G (c.fact 66 (f := .glo "NoKey") rfl), g_NoTree := He.glo_ok X G (c.fact 67 (f := .glo "NoTree") rfl), g_NoPairs := He.glo_ok X G (c.fact 68 (f := .glo "NoPairs") rfl), g_Book := He.glo_ok X G (c.fact 69 (f := .glo "Book") rfl), cl_Book := He.cls_ok (c.fact 70 (f := .cls "Book") rfl), mk_Book := He.mkr_ok (c.fact 71 (f := .mkr "Book") rfl), na_Book_room := He.noat_ok (c.fact 72 (f := .noat "Book" "room") rfl), na_Book_root := He.noat_ok (c.fact 73 (f := .noat "Book" "root") rfl), na_Book_half := He.noat_ok (c.fact 74 (f := .noat "Book" "half") rfl), na_Book_pages := He.noat_ok (c.fact 75 (f := .noat "Book" "pages") rfl), g_GREATEST := He.int_ok X G (c.fact 76 (f := .int "GREATEST" 1000000000) rfl), g_LAST_PAGE := He.int_ok X G (c.fact 77 (f := .int "LAST_PAGE" 1000000) rfl), g_LEAST_ROOM := He.int_ok X G (c.fact 78 (f := .int "LEAST_ROOM" 3) rfl), g_GREATEST_ROOM := He.int_ok X G (c.fact 79 (f := .int "GREATEST_ROOM" 8) rfl), g_ROOM := He.int_ok X G (c.fact 80 (f := .int "ROOM" 4) rfl), n_abs := He.free_ok X G (c.fact 81 (f := .free "abs") rfl), n_all := He.free_ok X G (c.fact 82 (f := .free "all") rfl), n_bool := He.free_ok X G (c.fact 83 (f := .free "bool") rfl), n_dict := He.free_ok X G (c.fact 84 (f := .free "dict") rfl), n_int := He.free_ok X G (c.fact 85 (f := .free "int") rfl), n_isinstance := He.free_ok X G (c.fact 86 (f := .free "isinstance") rfl), n_len := He.free_ok X G (c.fact 87 (f := .free "len") rfl), n_list := He.free_ok X G (c.fact 88 (f := .free "list") rfl), n_max := He.free_ok X G (c.fact 89 (f := .free "max") rfl), n_min := He.free_ok X G (c.fact 90 (f := .free "min") rfl), n_range := He.free_ok X G (c.fact 91 (f := .free "range") rfl), n_sorted := He.free_ok X G (c.fact 92 (f := .free "sorted") rfl), n_str := He.free_ok X G (c.fact 93 (f := .free "str") rfl), n_sum := He.free_ok X G (c.fact 94 (f := .free "sum") rfl), n_tuple := He.free_ok X G (c.fact 95 (f := .free "tuple") rfl), n_zip := He.free_ok X G (c.fact 96 (f := .free "zip") rfl) }⟩
def loose : List Str := (["_wall", "__name__", "GroveError", "NoRoom", "NoKey", "NoTree", "NoPairs", "GREATEST", "LAST_PAGE", "LEAST_ROOM", "GREATEST_ROOM", "is_whole"] : List Str) ++ (["is_between", "is_row", "is_key", "is_value", "is_room", "half_of", "is_pair", "are_pairs", "are_rising", "are_rising_pairs", "is_page_number", "is_leaf"] : List Str) ++ (["is_node", "is_page", "parts_of", "is_numbered_page", "are_numbered_pages", "levels_from", "sizes_fit", "bounds_of", "keys_fit", "nexts_fit", "is_sound", "need_room"] : List Str) ++ (["need_key", "need_tree", "ROOM", "empty", "shape_of", "shape_beneath", "joined", "parted", "kid_place", "value_in", "mate_in", "Book"] : List Str) ++ (["drop", "drop_in", "fill_up", "mend", "put_in", "part_up", "part", "add_kid", "planted", "_law_pot", "_law_take", "_law_shape"] : List Str) ++ (["_law_many", "_law_pages", "_law_pairs", "_law_laid", "_law_leaves", "_law_tree", "_law_pairs_of", "_law_same", "_law_walked", "_law_right", "_law_renamed"] : List Str)
abbrev R : PySem.W.OpenRow := PySem.W.OpenLaw.row PySem.Challenge.rw_latchgrove_k29_shapes_of_trees
abbrev hk : PySem.W.Hook := He.hookD 5 fa fn
def ob (s : PySem.W.SharedT) : He.AlD := He.obsDG 5 fa fn (HandSHeadRun.getT s)
theorem ob_eq (s : PySem.W.SharedT) : ob s = hk.obs s.abs := He.obsDG_eq (HandSHeadRun.getT_eq s)
theorem run (w : World) : HandSHeadRun.RunEq R (PySem.W.view R.prog [81]) hk ob 12000 loose w := by
  intro os
  kernel_rfl
end K29

open PySem PySem.W PySem.Calls PyProof.Rows
theorem PySem.Challenge.cw_latchgrove_k29_shapes_of_trees_holds : PySem.Challenge.rw_latchgrove_k29_shapes_of_trees.Holds := by
  w_on; o_law
  refine HandSHeadRun.head_any (r := OpenLaw.row PySem.Challenge.rw_latchgrove_k29_shapes_of_trees) (q := view (OpenLaw.row PySem.Challenge.rw_latchgrove_k29_shapes_of_trees).prog [81]) (H := K29.hk) (ob := K29.ob) (M := 12000) (loose := K29.loose) (d := HandSHeadRun.topDef (OpenLaw.row PySem.Challenge.rw_latchgrove_k29_shapes_of_trees).prog 81) (kwd := []) K29.ob_eq
    (by kernel_rfl) (fun s => by kernel_rfl) K29.run (by kernel_rfl) (by kernel_rfl) (by kernel_rfl) (by rfl) (by first | assumption | decide +kernel) (by decide +kernel) ⟨rfl, rfl, rfl, rfl, rfl, by decide +kernel⟩ ?hw ?hc
  case hw => w_witness2
  case hc =>
    refine L2.walk_ofE (l := PySem.Challenge.rw_latchgrove_k29_shapes_of_trees) (n := 63) (k := 30) (x := "script") (CX := L2.CX0) rfl (by decide) (by kernel_rfl) ⟨rfl, by decide, by decide⟩ ?F (fun _ _ _ _ z => z)
    intro w mg fa h Y G hmg0
    obtain ⟨K, KX, c⟩ := Y
    have hmg : mg ("law" : PySem.Str) = some (.ref fa) := by
      have e : (HandSHeadRun.topDef (OpenLaw.row PySem.Challenge.rw_latchgrove_k29_shapes_of_trees).prog 81).name = ("law" : PySem.Str) := by kernel_rfl
      rw [← e]
      exact hmg0
    obtain ⟨T⟩ := K29.tx KX G c
    have e := hmg.symm.trans T.g_law
    cases e
    have b := L2.FunD.bindsA (ps := ["script"]) T.F_law fun _ _ _ _ _ _ us hl => match us, hl with | [_], _ => rfl
    exact ⟨K, T.fd_law, K29.sp_law K, KX, fun s v => b s [v] rfl, fun H a ns hl _ hS => ⟨a, ns, rfl, hS, hl, fun _ => rfl⟩, fun base _ _ => K29.ok_law T⟩

