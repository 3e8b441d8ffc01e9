import PyProof.Rows.All
import Wide.All
import OpenK.AllK
import Wide.FinOn
import KE.KStateDown
import Lean
import HandS.ForMost
import HandS.Wide
import HandS.IsInst
import HandS.Zip
import HandS.Walk
import HandS.Style
import HandS.Defaults
import HandS.MakeKwOnly
import HandS.CallRecv
import HandS.Sort
import HandS.Evl
import HandS.DictTup
import HandS.SortOrd
import HandS.Deep
import HandS.Head0
import HandS.Head1
import HandS.Head2
import HandS.HeadEnd
import HandS.HeadHook1
import HandS.HeadHook2
import HandS.TupAny
import KE.GoesNew
import KE.GoesMore
import HandS.Star
import KE.KDictPairs
import HandS.WordsDict
import HandS.SortRule
import HandS.More
import HandS.Strs
import HandS.SetFor
import HandS.SortInts
import HandS.TupMul
import HandS.Conv
import HandS.Flow
import HandS.Rev
import HandS.Small
import KE.KDictZip
import KE.KItemsList
import HandS.ListItems
import HandS.DictComp
import PySem.Challenge.RW_latchgrove_k37_latches_alike
set_option Elab.async false
set_option linter.all false
set_option maxRecDepth 100000
set_option maxHeartbeats 8000000
namespace HX
open PySem PySem.Spec PyProof.Rows L2

/-! ### numbers -/
def CPowW (i j : Int) : Prop := 0 ≤ j ∧ (Builtin.Int.intBits i : Int) * j ≤ 2 ^ 27
section
variable {X : Cx}
theorem op_powW : OpR X (binaryOp .Pow) (rI CPowW fun i j => .int (i ^ j.toNat)) := opI fun _ _ _ _ _ _ _ hc q => pow_int hc.1 hc.2 q
end
theorem intBits_le (x : Int) : Builtin.Int.intBits x ≤ x.natAbs.log2 + 1 := by
  unfold Builtin.Int.intBits
  split <;> omega
theorem powW_of {i j : Int} {a : Nat} (h0 : 0 ≤ j) (ha : i.natAbs < 2 ^ a) (hp : 0 < a) (h : (a : Int) * j ≤ 2 ^ 27) : CPowW i j := by
  refine ⟨h0, ?_⟩
  have x := PySem.Flt.log2_lt_of hp ha
  have y := intBits_le i
  have z : (Builtin.Int.intBits i : Int) ≤ (a : Int) := by omega
  exact Int.le_trans (Int.mul_le_mul_of_nonneg_right z h0) h

/-! ### xs[i] op= e -/
section
variable {X : Cx}
theorem get_list : PGet X (rIxL X.K) := by
  intro pins s σ H o i ov iv Q I rx ry h
  obtain ⟨p, xs, k, z, rfl, rfl, hq, he, q⟩ := h
  cases rx
  obtain ⟨t, rfl⟩ := ry
  obtain ⟨its, r, pl, hz⟩ := I.list hq
  obtain ⟨j, h1, h2, h3, h4, h5⟩ := atI_get he
  obtain ⟨w, ew, rw'⟩ := r.get h2
  have hl := r.length
  have hn := line63
  have fin : EP X pins σ Q w s := ⟨z, H, I, rw', q⟩
  by_cases h0 : 0 ≤ k
  · have hj : k.toNat = j := by
      rw [seqIndex_of h0 h5] at h1
      exact Option.some.inj h1
    exact wpAny_getItem_list pl.isList h0 (by omega) (by rw [hj]; simpa using ew) fin
  · have hj : (k + (its.toArray.size : Int)).toNat = j := by
      rw [seqIndex_neg (by omega) h4] at h1
      rw [List.size_toArray, ← hl]
      exact Option.some.inj h1
    exact wpAny_getItem_list_neg pl.isList (by omega) (by rw [List.size_toArray] <;> omega) (by omega) (by rw [hj]; simpa using ew) fin
end

/-! ### a walk over a range held as a value -/
section
variable {X : Cx} {tg : Expr}
def iRngV (te : TE) : TI := fun σ H R => te σ H fun v H1 => ∃ (a : Addr) (lo hi : Int), v = .ref a ∧ H1 a = some (.rng lo hi) ∧ (-(2 ^ 62) ≤ lo ∧ lo < 2 ^ 62 ∧ -(2 ^ 62) ≤ hi ∧ hi < 2 ^ 62) ∧ R (Itr lo (hi - lo).toNat) H1
theorem pi_rngV {e : Expr} {te : TE} (he : PE X e te) : PI X tg e (iRngV te) := by
  refine ⟨fun pins s σ H R I h => ?_⟩
  refine thn (he.run pins s σ H _ I h) fun u s1 ⟨x, H1, I1, rx, a, lo, hi, ex, ea, ⟨h1, h2, h3, h4⟩, q⟩ => ?_
  subst ex
  obtain rfl : u = Value.ref a := rx
  obtain ⟨t, u, v, ho⟩ := I1.hok _ _ ea
  refine wpAny_pyIter_range ho (small_one h1 h2 h3 h4) ?_
  refine ⟨s1.heap.objs.size, [s1.heap.objs.size], _, _, H1, rfl,
    I1.kept (t' := s1.toks) fun b o e => Heap.get?_push_of_some _ e, turn_range _ lo (hi - lo).toNat, ?_, fun b hb => ?_, q⟩
  · have e1 : lo + ((0 : Nat) : Int) * 1 = lo := by simp
    have e2 : (((hi - lo).toNat : Nat) : Int) - ((0 : Nat) : Int) = Builtin.Range.rangeSize lo hi 1 := by rw [rangeSize_one]; split <;> omega
    show IsRangeIter _ _ (lo + ((0 : Nat) : Int) * 1) ((((hi - lo).toNat : Nat) : Int) - ((0 : Nat) : Int)) 1
    rw [e1, e2]
    exact Heap.get?_push_size _ rfl
  · have e : b = s1.heap.objs.size := by simpa using hb
    subst e
    exact I1.fpOk (Nat.le_refl _) (I1.hok.fresh (Nat.le_refl _))
end

/-! ### heaps -/
theorem same_upd {H H' : Hp} {p : Addr} {o : HO} (s : Same H H') (h : H p = none) : Same H (upd H' p o) := fun b u e => by
  rw [upd_ne (fun z => by rw [z, h] at e; cases e)]
  exact s b u e
theorem same_new {H : Hp} {p : Addr} {o : HO} (h : H p = none) : Same H (upd H p o) := same_upd (Same.refl H) h
/-- all but what stands at p is as it was -/
def But (p : Addr) (H H' : Hp) : Prop := ∀ b o, b ≠ p → H b = some o → H' b = some o
theorem But.refl (p : Addr) (H : Hp) : But p H H := fun _ _ _ h => h
theorem But.trans {p : Addr} {H H1 H2 : Hp} (a : But p H H1) (b : But p H1 H2) : But p H H2 := fun c o n h => b c o n (a c o n h)
theorem But.of {p : Addr} {H H' : Hp} (s : Same H H') : But p H H' := fun b o _ h => s b o h
theorem But.upd {p : Addr} {H H' : Hp} {o : HO} (s : But p H H') : But p H (upd H' p o) := fun b u n e => by
  rw [upd_ne n]
  exact s b u n e
theorem But.new {p q : Addr} {H H' : Hp} {o : HO} (s : But p H H') (h : H' q = none) : But p H (L2.upd H' q o) := fun b u n e => by
  have e' := s b u n e
  rw [upd_ne (ne_of_none e' h)]
  exact e'
theorem But.seq {K : PySem.W.Frag} {H H' : Hp} {p a : Addr} {xs : List V} (e : But p H H') (n : a ≠ p) (h : SqL K H a xs) : SqL K H' a xs := by
  rcases h with (h | ⟨o, h⟩) | h
  · exact .inl (.inl (e _ _ n h))
  · exact .inl (.inr ⟨o, e _ _ n h⟩)
  · exact .inr h

/-! ### names of the module, of built-in classes -/
section
variable {X : Cx} {x : Str} {pos : Pos}
theorem pe_gint {i : Int} (h : ∃ t, X.mg x = some (.int i t)) (hg : Gl X x := by rfl) (hdb : (x == ("__debug__" : Str)) = false := by decide) : PE X (.Name x pos) (tC (.int i)) := by
  obtain ⟨t, ht⟩ := h
  exact pe_glob hg ht ⟨t, rfl⟩ hdb
theorem pe_ty (n : String) (hm : X.mg x = none) (hv : bootBuiltins x = some (.type n)) (hg : Gl X x := by rfl) (hn : x ≠ ("__name__" : Str) := by decide) (hdb : (x == ("__debug__" : Str)) = false := by decide) : PE X (.Name x pos) (tC (.ty n)) := pe_bltn hg hm hv rfl hn hdb
end

/-! ### lists of whole numbers by a function of the place -/
def fl (n : Nat) (f : Nat → Int) : List V := (List.range n).map fun i => V.int (f i)
theorem fl_len (n : Nat) (f : Nat → Int) : (fl n f).length = n := by unfold fl; rw [List.length_map, List.length_range]
theorem fl_get {n : Nat} {f : Nat → Int} {i : Nat} (h : i < n) : (fl n f)[i]? = some (.int (f i)) := by
  unfold fl
  rw [List.getElem?_map, List.getElem?_range h]
  rfl
theorem fl_at {n : Nat} {f : Nat → Int} {i : Nat} (h : i < n) : atI (fl n f) (i : Int) = some (.int (f i)) := atI_nat (fl_get h)
theorem fl_at' {n : Nat} {f : Nat → Int} {i : Int} {k : Nat} (h : k < n) (e : i = (k : Int)) : atI (fl n f) i = some (.int (f k)) := by
  subst e
  exact fl_at h
theorem at_of {α : Type} {xs : List α} {i : Int} {j : Nat} {v : α} (h : xs[j]? = some v) (e : i = (j : Int)) : atI xs i = some v := by
  subst e
  exact atI_nat h
theorem at_last {α : Type} {xs : List α} {n : Nat} {v : α} (hl : xs.length = n + 1) (h : xs[n]? = some v) : atI xs (-1) = some v := by
  have e : ixN xs.length (-1) = some n := by
    unfold ixN
    rw [hl, if_neg (by decide), if_pos (by omega)]
    congr 1
    omega
  unfold atI
  rw [e]
  exact h
theorem fl_congr {n : Nat} {f g : Nat → Int} (h : ∀ i, i < n → f i = g i) : fl n f = fl n g := by
  unfold fl
  exact List.map_congr_left fun i hi => by rw [h i (List.mem_range.mp hi)]
theorem fl_set {n : Nat} {f : Nat → Int} {j : Nat} (v : Int) (h : j < n) : (fl n f).set j (.int v) = fl n (fun i => if i = j then v else f i) := by
  refine List.ext_getElem? fun i => ?_
  by_cases hi : i < n
  · rw [fl_get hi, List.getElem?_set, fl_len]
    by_cases e : j = i
    · subst e
      rw [if_pos rfl, if_pos h, if_pos rfl]
    · rw [if_neg e, fl_get hi, if_neg (fun z => e z.symm)]
  · rw [List.getElem?_eq_none (by rw [List.length_set, fl_len]; omega), List.getElem?_eq_none (by rw [fl_len]; omega)]
theorem fl_rep (n : Nat) (v : Int) : (List.replicate n [V.int v]).flatten = fl n (fun _ => v) := by
  refine List.ext_getElem? fun i => ?_
  have e : (List.replicate n [V.int v]).flatten = List.replicate n (V.int v) := by
    induction n with
    | zero => rfl
    | succ n ih => rw [List.replicate_succ, List.flatten_cons, ih]; rfl
  rw [e]
  by_cases hi : i < n
  · rw [fl_get hi, List.getElem?_replicate, if_pos hi]
  · rw [List.getElem?_eq_none (by rw [List.length_replicate]; omega), List.getElem?_eq_none (by rw [fl_len]; omega)]
theorem fl_snoc (n : Nat) (f : Nat → Int) : fl n f ++ [.int (f n)] = fl (n + 1) f := by
  unfold fl
  rw [List.range_succ, List.map_append]
  rfl
theorem fl_cons (n : Nat) (f : Nat → Int) : V.int (f 0) :: fl n (fun i => f (i + 1)) = fl (n + 1) f := by
  unfold fl
  rw [List.range_succ_eq_map, List.map_cons, List.map_map]
  rfl
theorem ixN_nat {n j : Nat} (h : j < n) : ixN n (j : Int) = some j := by
  unfold ixN
  rw [if_pos (by omega), if_pos (by omega)]
  simp
theorem ixN_nat' {n j : Nat} {i : Int} (h : j < n) (e : i = (j : Int)) : ixN n i = some j := by
  subst e
  exact ixN_nat h
theorem take_more {α : Type} : ∀ {l : List α} {i : Nat} {x : α}, l[i]? = some x → l.take (i + 1) = l.take i ++ [x]
  | [], i, x, h => by simp at h
  | a :: l, 0, x, h => by
    have e : a = x := Option.some.inj h
    subst e
    rfl
  | a :: l, i + 1, x, h => by
    have ih := take_more (l := l) (i := i) (x := x) h
    show a :: l.take (i + 1) = a :: l.take i ++ [x]
    rw [ih]
    rfl
theorem Same.list {H H' : Hp} {a : Addr} {xs : List V} (s : Same H H') (h : H a = some (.lst xs)) : H' a = some (.lst xs) := s _ _ h

/-! ### fields -/
theorem lk_hit (f : Str) (v : V) (fs : List (Str × V)) : (putF f v fs).lookup f = some v := by rw [lookup_putF, if_pos rfl]
theorem lk_miss {f g : Str} (h : ¬ f = g) {v : V} {fs : List (Str × V)} {o : Option V} (q : fs.lookup g = o) : (putF f v fs).lookup g = o := by rw [lookup_putF, if_neg (fun z => h z.symm)]; exact q
theorem putF_len (f : Str) (v : V) : ∀ fs : List (Str × V), (putF f v fs).length ≤ fs.length + 1
  | [] => Nat.le_refl _
  | (g, x) :: r => by
    unfold putF
    split
    · exact Nat.le_succ _
    · exact Nat.succ_le_succ (putF_len f v r)
theorem putF_lt {f : Str} {v : V} {fs : List (Str × V)} {n : Nat} (h : fs.length < n) : (putF f v fs).length < n + 1 := Nat.lt_of_le_of_lt (putF_len f v fs) (Nat.succ_lt_succ h)

/-! ### the same rules with the written part named (for what stands in a comprehension) -/
section
variable {X : Cx}
theorem ixl (K : PySem.W.Frag) (h : X.K = K := by rfl) : IxR X (rIxL K) := by
  subst h
  exact ix_list
theorem ixt (K : PySem.W.Frag) (h : X.K = K := by rfl) : IxR X (rIxT K) := by
  subst h
  exact ix_tup
theorem lenK (K : PySem.W.Frag) (h : X.K = K := by rfl) : CallR X (.builtin "len") (fun xs H Q => ∃ p ys, xs = [.ref p] ∧ (SqL K H p ys ∨ SqT K H p ys) ∧ Q (.int ys.length) H) := by
  subst h
  exact call_len_seq
theorem isiK (K : PySem.W.Frag) (h : X.K = K := by rfl) : CallR X (.builtin "isinstance") (rIsi K) := by
  subst h
  exact call_isi
theorem sllK (K : PySem.W.Frag) (h : X.K = K := by rfl) : SlR X (rSlL K) := by
  subst h
  exact sl_list
theorem pe_fldK (K : PySem.W.Frag) {e : Expr} {f : Str} {pos : Pos} {ta : TE} (he : PE X e ta) (hb : attributeBase e f X.env (eval e X.env) = eval e X.env) (h : X.K = K := by rfl) : PE X (.Attribute e f pos) (tFld K ta f) := by
  subst h
  exact pe_fld he hb
end
end HX

/-! ### sorted(d.items()), d a dict with whole numbers as keys and objects as values -/
namespace HS
open PySem PySem.Spec PyProof.Rows L2
section
variable {X : Cx}
/-- d.items() -/
def rItemsK : V → List V → Hp → VK → Prop := fun x xs H Q => ∃ (a : Addr) (kvs : List (L2.Key × V)), x = .ref a ∧ xs = [] ∧ H a = some (.dK kvs) ∧ ∀ p, H p = none → Q (.ref p) (upd H p (DX.itemsO p a))
theorem mt_itemsK : MtR X "dict.items" rItemsK := by
  intro pins s σ H x xs v us Q I rx rxs h
  obtain ⟨a, kvs, rfl, rfl, ha, q⟩ := h
  cases rx
  cases rxs
  obtain ⟨z, hd, vs, rel, o, es, ep, ho, hx, hdat, _⟩ := dk_of I.hok ha
  refine DT.callItems (es := es) (ep := ep) hd ⟨o, ho, hx, hdat⟩ ?_
  have hf : H s.heap.objs.size = none := I.hok.fresh (Nat.le_refl _)
  exact ⟨.ref s.heap.objs.size, upd H s.heap.objs.size (DX.itemsO s.heap.objs.size a), I.laid (t' := s.toks) (fun b u e => Heap.get?_push_of_some _ e) (Nat.le_refl _) (DX.itemsO_ok (Heap.get?_push_size _ rfl)), rfl, q _ hf⟩
abbrev entK (e : Int × Addr) : L2.Key × V := (Sum.inl e.1, V.ref e.2)
def rSortItK : List V → Hp → VK → Prop := fun vs H Q => ∃ (p a : Addr) (ks : List (Int × Addr)), vs = [.ref p] ∧ H p = some (DX.itemsO p a) ∧ H a = some (.dK (ks.map entK)) ∧
  ∀ (H' : Hp) (l : Addr) (ps : List (Addr × Int × Addr)), (∀ b o, H b = some o → H' b = some o) → H l = none → (ps.map (·.2)).Perm ks → (ps.map (·.2)).Pairwise (fun e f => e.1 < f.1) → H' l = some (.lst (ps.map fun z => V.ref z.1)) →
    (∀ z ∈ ps, H' z.1 = some (.tup [.int z.2.1, .ref z.2.2])) → Q (.ref l) H'
/-- the first item, a whole number, of the tuple that the value stands for -/
def kfI (h : Heap) (v : Value) : Int := match v with
  | .ref b => (match h.get? b with
    | some o => (match o.data with
      | .seq xs _ => (match (xs[0]? : Option Value) with
        | some (Value.int i _) => i
        | _ => 0)
      | _ => 0)
    | _ => 0)
  | _ => 0
theorem kfI_of {h : Heap} {b : Addr} {o : Obj} {i : Int} {t : Tok} {v : Value} {n : Nat} (ho : h.get? b = some o) (hd : o.data = .seq #[.int i t, v] n) : kfI h (.ref b) = i := by
  unfold kfI
  simp only [ho, hd]
  rfl
theorem swo_int (k : Value → Int) : SrtO.Swo fun v u => decide (k v < k u) := by
  refine ⟨fun x y h => ?_, fun x y z h1 h2 => ?_⟩
  · have a := of_decide_eq_true h
    exact decide_eq_false (by omega)
  · have a := of_decide_eq_false h1
    have b := of_decide_eq_false h2
    exact decide_eq_false (by omega)
/-- a pair with a whole number first -/
def IsEnt (h : Heap) (v : Value) (i : Int) : Prop := ∃ (a : Addr) (o : Obj) (t : Tok) (u : Value) (n : Nat), v = .ref a ∧ h.get? a = some o ∧ o.cls = .type "tuple" ∧ o.data = .seq #[.int i t, u] n
theorem firstsE {h : Heap} {k : Value → Int} : ∀ vs : List Value, (∀ v ∈ vs, IsEnt h v (k v)) → ∃ fs : List Value, PySem.W.KatTups h vs fs ∧ fs.length = vs.length ∧ ∀ f ∈ fs, ∃ x t, f = Value.int x t
  | [], _ => ⟨[], PySem.W.KatTups.nil, rfl, fun f hf => nomatch hf⟩
  | v :: vs, x => by
    obtain ⟨fs, k1, hl, hi⟩ := firstsE (h := h) (k := k) vs fun u hu => x u (List.mem_cons_of_mem _ hu)
    obtain ⟨a, o, t, u, n, e, ho, hc, hd⟩ := x v (List.mem_cons_self ..)
    subst e
    refine ⟨.int (k (.ref a)) t :: fs, PySem.W.KatTups.cons ho hc hd rfl k1, congrArg Nat.succ hl, fun f hf => ?_⟩
    rcases List.mem_cons.mp hf with rfl | hf
    · exact ⟨_, _, rfl⟩
    · exact hi f hf
section
variable {prog : Program} {w : World} {A : Around} {s : Shared}
theorem ent_cmp {vs : List Value} {k : Value → Int} (hp : ∀ v ∈ vs, IsEnt s.heap v (k v)) (inj : ∀ v ∈ vs, ∀ u ∈ vs, k v = k u → v = u) : SrtO.Cmp prog w A s (tuples' true) (fun p => p.1 ∈ vs) (SrtO.lt2 fun v u => decide (k v < k u)) := by
  intro p q hm hm'
  have h1 := hp _ hm
  have h2 := hp _ hm'
  have hi := inj _ hm _ hm'
  show wpAny (model prog w) A (keyLt' (tuples' true) p.1 q.1) (fun r s' => s' = s ∧ r = decide (k p.1 < k q.1)) (fun _ _ => False) s
  generalize k p.1 = x at h1 hi ⊢
  generalize k q.1 = x' at h2 hi ⊢
  obtain ⟨a, o, t, u, n, e, ho, hc, hd⟩ := h1
  obtain ⟨a', o', t', u', n', e', ho', hc', hd'⟩ := h2
  rw [e, e']
  refine PySem.W.kat_lt ho hd ho' hd' ?_
  show PySem.W.KatLex prog w A true (decide (2 < 2)) _ [(.int x t, .int x' t'), (u, u')] 0 s
  refine PySem.W.kat_cons (SeqAt.EqAt.int_int x t x' t' prog w _ _ ?_)
  refine PySem.W.kat_go (fun e1 => ?_) (fun e1 => ?_)
  · have ex : x = x' := by simpa using e1
    have ev := hi ex
    rw [e, e'] at ev
    cases ev
    have eo : o = o' := Option.some.inj (ho.symm.trans ho')
    subst eo
    rw [hd] at hd'
    have eu : u = u' := by
      injection hd' with h1 h2
      have z := congrArg (fun (a : Array Value) => a[1]?) h1
      simpa using z
    subst eu
    refine PySem.W.kat_yes (PySem.W.kat_cons (SeqAt.EqAt.same u prog w _ _ ?_))
    refine PySem.W.kat_yes (PySem.W.kat_nil ⟨rfl, ?_⟩)
    rw [ex]
    exact (decide_eq_false (Int.lt_irrefl _)).symm
  · exact PySem.W.kat_no (oneLt_int ⟨rfl, rfl⟩)
theorem ents_sortable {a : Addr} {vs : List Value} {k : Value → Int} (h0 : 0 < vs.length) (hp : ∀ v ∈ vs, IsEnt s.heap v (k v)) (inj : ∀ v ∈ vs, ∀ u ∈ vs, k v = k u → v = u) (ha : ∀ o, s.heap.get? a = some o → o.cls ≠ .type "tuple") :
    SrtO.SortableO prog w A s a vs fun v u => decide (k v < k u) := by
  intro h' keep
  have hp' : ∀ v ∈ vs, IsEnt h' v (k v) := fun v hm => by
    obtain ⟨b, o, t, u, n, e, ho, hc, hd⟩ := hp v hm
    exact ⟨b, o, t, u, n, e, keep b o (fun z => by subst z; exact ha o ho hc) ho, hc, hd⟩
  obtain ⟨fs, h1, h2, h3⟩ := firstsE (h := h') (k := k) vs hp'
  refine ⟨tuples' true, fun Q E hq => ?_, ent_cmp hp' inj⟩
  refine PySem.W.kat_kind (T := .type "int") h1 (by omega) (fun f hm => ?_) (by rfl) ?_
  · obtain ⟨x, t, rfl⟩ := h3 f hm
    exact PySem.W.Looks.now
  · have e : (Value.type "int" != Value.type "tuple") = true := by first | decide +kernel | rfl | decide
    rw [e]
    exact hq
end
theorem pairs_at {P : Program} {w : World} : ∀ {es : List DictEntry} {vs : List (L2.Key × Value)}, Pairs (mixKind P w) es vs → ∀ (j : Nat) (e : DictEntry), es[j]? = some e → ∃ kv, vs[j]? = some kv ∧ keyIs kv.1 e.key = true ∧ e.val = kv.2
  | _, _, .nil, j, e, h => by simp at h
  | _, _, .cons h1 h2 r, 0, e, h => by
    cases h
    exact ⟨_, rfl, h1, h2⟩
  | _, _, .cons h1 h2 r, j + 1, e, h => pairs_at r j e h
theorem kv_at : ∀ {ks : List (Int × Addr)} {vs : List (L2.Key × Value)}, KV (ks.map entK) vs → ∀ (j : Nat) (kv : L2.Key × Value), vs[j]? = some kv → ∃ e, ks[j]? = some e ∧ kv = (Sum.inl e.1, Value.ref e.2)
  | [], _, h, j, kv, q => by
    cases h
    simp at q
  | e :: ks, _, h, j, kv, q => by
    cases h with
    | cons r rs =>
      cases j with
      | zero =>
        have q' := Option.some.inj q
        obtain ⟨r1, r2⟩ := r
        refine ⟨e, rfl, ?_⟩
        rw [← q']
        exact Prod.ext r1.symm r2
      | succ j => exact kv_at (ks := ks) rs j kv q
theorem cr_sortedItK (hc : X.calm = true) : CallR X (.builtin "sorted") rSortItK := by
  intro pins s σ H xs us Q I r h
  obtain ⟨p, a, ks, rfl, hp, ha, q⟩ := h
  obtain rfl := Vals.ref1 r
  have view : s.heap.IsItemsView p a := (show ObjOk X.prog X.w H s.heap p (DX.itemsO p a) from I.hok p _ hp).1
  obtain ⟨z, hd, vs', rel, o, es, ep, ho, hx, hdat, hko, hpairs, hnd⟩ := dk_of I.hok ha
  have l1 : (ks.map entK).length = vs'.length := Paired.length rel
  rw [List.length_map] at l1
  have l2 : es.size = vs'.length := by
    rw [← Pairs.length hpairs, Array.length_toList]
  rw [List.length_map] at z
  have hh : X.A.handled = none := I.ok.hd hc
  refine DT.sortedI (es := es) (ep := ep) hh view ⟨o, ho, hx, hdat⟩ (by omega) fun h' tk as hk hlt hl hG => ?_
  have lak : as.length = ks.length := by omega
  have nd : as.Nodup := List.Pairwise.imp (fun h => Nat.ne_of_lt h) hG.rise
  have pr : ∀ (j : Nat) (b : Addr), as[j]? = some b → ∃ (e : Int × Addr) (t : Tok), ks[j]? = some e ∧ h'.get? b = some { cls := .type "tuple", data := .seq #[Value.int e.1 t, Value.ref e.2] } := by
    intro j b hj
    obtain ⟨en, he, hg⟩ := hG.pairs j b hj
    obtain ⟨kv, h1, h2, h3⟩ := pairs_at hpairs j en (by rw [Array.getElem?_toList]; exact he)
    obtain ⟨e, h4, rfl⟩ := kv_at rel j kv h1
    rcases keyIs_shape h2 with ⟨i, t, e1, e2⟩ | ⟨i, t, e1, e2⟩
    · cases e1
      rw [e2, h3] at hg
      exact ⟨e, t, h4, hg⟩
    · cases e1
  have knd : (ks.map (·.1)).Nodup := by
    have e : vs'.map (·.1) = ks.map fun e => (Sum.inl e.1 : L2.Key) := by
      refine List.ext_getElem? fun j => ?_
      rw [List.getElem?_map, List.getElem?_map]
      cases hv : vs'[j]? with
      | none =>
        have : ks[j]? = none := List.getElem?_eq_none (by rw [l1]; exact List.getElem?_eq_none_iff.mp hv)
        rw [this]
        rfl
      | some kv =>
        obtain ⟨e, h4, rfl⟩ := kv_at rel j kv hv
        rw [h4]
        rfl
    rw [e] at hnd
    exact List.pairwise_map.mpr (List.Pairwise.imp (fun {x y} h z => h (congrArg Sum.inl z)) (List.pairwise_map.mp hnd))
  have hob : (h'.push { cls := .type "list", data := .seq (as.map Value.ref).toArray }).get? h'.objs.size = some (seqObj "list" (as.map Value.ref).toArray 0) := Heap.get?_push_size _ rfl
  have kb : ∀ b o, s.heap.get? b = some o → (h'.push { cls := .type "list", data := .seq (as.map Value.ref).toArray }).get? b = some o := fun b o e => Heap.get?_push_of_some _ (hk b o e)
  have ne0 : ∀ b o, h'.get? b = some o → b ≠ h'.objs.size := fun b o e => Nat.ne_of_lt (Heap.lt_size e)
  generalize hh2 : h'.push { cls := .type "list", data := .seq (as.map Value.ref).toArray } = h2 at hob kb ⊢
  have ka : ∀ b o, h'.get? b = some o → h2.get? b = some o := fun b o e => by rw [← hh2]; exact Heap.get?_push_of_some _ e
  have at_ : ∀ v ∈ as.map Value.ref, ∃ (j : Nat) (b : Addr) (e : Int × Addr) (t : Tok), v = .ref b ∧ as[j]? = some b ∧ ks[j]? = some e ∧ h'.get? b = some { cls := .type "tuple", data := .seq #[Value.int e.1 t, Value.ref e.2] } := by
    intro v hv'
    obtain ⟨b, hb, rfl⟩ := List.mem_map.mp hv'
    obtain ⟨j, hj⟩ := List.mem_iff_getElem?.mp hb
    obtain ⟨e, t, he, hg⟩ := pr j b hj
    exact ⟨j, b, e, t, rfl, hj, he, hg⟩
  have kf : ∀ (b : Addr) (e : Int × Addr) (t : Tok), h'.get? b = some { cls := .type "tuple", data := .seq #[Value.int e.1 t, Value.ref e.2] } → kfI h' (.ref b) = e.1 := fun b e t hg => kfI_of hg rfl
  have ent : ∀ v ∈ as.map Value.ref, IsEnt h2 v (kfI h' v) := by
    intro v hv
    obtain ⟨j, b, e, t, rfl, _, _, hg⟩ := at_ v hv
    exact ⟨b, _, t, .ref e.2, 0, rfl, ka _ _ hg, rfl, by rw [kf b e t hg]⟩
  have inj : ∀ v ∈ as.map Value.ref, ∀ u ∈ as.map Value.ref, kfI h' v = kfI h' u → v = u := by
    intro v hv u hu hvu
    obtain ⟨j, b, e, t, rfl, j1, j2, hg⟩ := at_ v hv
    obtain ⟨i, c, f, t', rfl, i1, i2, hg'⟩ := at_ u hu
    rw [kf b e t hg, kf c f t' hg'] at hvu
    have ej : (ks.map (·.1))[j]? = some e.1 := by rw [List.getElem?_map, j2]; rfl
    have ei : (ks.map (·.1))[i]? = some e.1 := by rw [List.getElem?_map, i2, hvu]; rfl
    have eij : j = i := (List.getElem?_inj (List.getElem?_eq_some_iff.mp ej).1 knd).mp (ej.trans ei.symm)
    subst eij
    rw [i1] at j1
    cases j1
    rfl
  refine wpAny_call_entry PyProof.Rows.slot_list_sort ⟨_, hob, rfl⟩ PyProof.Rows.entry_list_sort
    (SrtO.list_sort_ord (s := { s with heap := h2, toks := tk }) (swo_int (kfI h')) hob (by rw [List.length_map]; omega) (fun h2' => ents_sortable (s := { s with heap := h2, toks := tk }) (by omega) ent inj fun o e => ?_) fun out o1 o2 => ⟨.none, rfl, ?_⟩) (PyProof.Rows.args_list_sort _)
  · have e' : some o = some (seqObj "list" (as.map Value.ref).toArray 0) := e.symm.trans hob
    cases e'
    intro c
    exact absurd (Value.type.inj c) (by decide)
  · show EP X pins σ Q (.ref h'.objs.size) { s with heap := sortedHeap h2 h'.objs.size (as.map Value.ref) out.toArray, toks := tk }
    obtain ⟨zs, pz, ez⟩ := perm_lift (fun z : Addr × Int × Addr => Value.ref z.1) o2.perm (as.zip ks) (by
      rw [show (fun z : Addr × Int × Addr => Value.ref z.1) = Value.ref ∘ Prod.fst from rfl, ← List.map_map, List.map_fst_zip (by omega)])
    have idx : ∀ z ∈ zs, ∃ j : Nat, as[j]? = some z.1 ∧ ks[j]? = some z.2 := by
      intro z' hz'
      obtain ⟨j, hj⟩ := List.mem_iff_getElem?.mp (pz.mem_iff.mp hz')
      exact ⟨j, List.getElem?_zip_eq_some.mp hj⟩
    have hperm : (zs.map (·.2)).Perm ks := by
      have e := pz.map (·.2)
      have m2 : (as.zip ks).map (·.2) = ks := List.map_snd_zip (by rw [lak]; exact Nat.le_refl _)
      rw [m2] at e
      exact e
    have kz : ∀ z ∈ zs, kfI h' (.ref z.1) = z.2.1 := fun z hz => by
      obtain ⟨j, j1, j2⟩ := idx z hz
      obtain ⟨e, t, he, hg⟩ := pr j _ j1
      rw [kf _ e t hg]
      rw [he] at j2
      cases j2
      rfl
    have hsort : (zs.map (·.2)).Pairwise (fun e f => e.1 < f.1) := by
      have le : (zs.map (·.2)).Pairwise (fun e f => e.1 ≤ f.1) := by
        have o1' : out.Pairwise (fun v u => decide (kfI h' u < kfI h' v) = false) := o1
        rw [← ez, List.pairwise_map] at o1'
        rw [List.pairwise_map]
        refine List.Pairwise.imp_of_mem (fun {x y} hx hy h => ?_) o1'
        have h2 := of_decide_eq_false h
        rw [kz x hx, kz y hy] at h2
        omega
      have ne : (zs.map (·.2)).Pairwise (fun e f => e.1 ≠ f.1) := by
        have n1 : ((zs.map (·.2)).map (·.1)).Nodup := (hperm.map (·.1)).nodup_iff.mpr knd
        exact List.pairwise_map.mp n1
      exact List.Pairwise.imp (fun {x y} h => by have := h.1; have := h.2; omega) (List.Pairwise.and le ne)
    have kF : ∀ b o, b ≠ h'.objs.size → h2.get? b = some o → (sortedHeap h2 h'.objs.size (as.map Value.ref) out.toArray).get? b = some o := fun b o hb e => (PyProof.Rows.sortedHeap_old hb (Heap.lt_size e)).trans e
    have kS : ∀ b o, s.heap.get? b = some o → (sortedHeap h2 h'.objs.size (as.map Value.ref) out.toArray).get? b = some o := fun b o e => kF b o (ne0 _ _ (hk b o e)) (kb b o e)
    obtain ⟨eF, heF⟩ := PyProof.Rows.sortedHeap_at (vs := as.map Value.ref) (out := out.toArray) hob
    have I1 : Inv X pins σ H { s with heap := sortedHeap h2 h'.objs.size (as.map Value.ref) out.toArray, toks := tk } := I.kept (t' := tk) kS
    have hn0 : H h'.objs.size = none := I.hok.fresh (Nat.le_of_lt hlt)
    have hlen : (zs.map fun z => V.ref z.1).length ≤ sizeLine := by
      have e := hperm.length_eq
      rw [List.length_map] at e
      rw [List.length_map]
      omega
    have rv : Vals (zs.map fun z => V.ref z.1) out := by
      rw [← ez]
      exact vals_maps (fun z : Addr × Int × Addr => V.ref z.1) (fun z => Value.ref z.1) zs fun _ _ => rfl
    have I2 : Inv X pins σ (upd H h'.objs.size (.lst (zs.map fun z => V.ref z.1))) { s with heap := sortedHeap h2 h'.objs.size (as.map Value.ref) out.toArray, toks := tk } :=
      I1.take (h' := sortedHeap h2 h'.objs.size (as.map Value.ref) out.toArray) (t' := tk) (fun b ob _ e => e) (I.fpOk (Nat.le_of_lt hlt) hn0) ⟨hlen, out, eF, rv, heF⟩
    obtain ⟨H2, I3, g, qt⟩ := DX.takeT (P := fun b vs => ∃ (j : Nat) (e : Int × Addr), as[j]? = some b ∧ ks[j]? = some e ∧ vs = [.int e.1, .ref e.2]) I as _ I2 nd fun b hb => by
      obtain ⟨j, hj⟩ := List.mem_iff_getElem?.mp hb
      obtain ⟨e, t, he, hg⟩ := pr j b hj
      have hbl : s.heap.objs.size ≤ b := Nat.le_of_lt (hG.above b hb)
      refine ⟨hbl, ?_, [.int e.1, .ref e.2], ⟨j, e, hj, he, rfl⟩, fun H3 => ⟨(by rw [sizeLine_eq]; show 2 ≤ 16777216; omega), [Value.int e.1 t, Value.ref e.2], .cons ⟨t, rfl⟩ (.cons rfl .nil), ⟨_, kF _ _ (ne0 _ _ hg) (ka _ _ hg), rfl, 0, rfl⟩⟩⟩
      rw [upd_ne (ne0 _ _ hg)]
      exact I.hok.fresh hbl
    have gr : ∀ b o, H b = some o → H2 b = some o := fun b o e => g b o (by rw [upd_ne (ne_of_none e hn0)]; exact e)
    refine ⟨.ref h'.objs.size, H2, I3, rfl, q H2 h'.objs.size zs gr hn0 hperm hsort (g _ _ upd_same) fun z' hz' => ?_⟩
    obtain ⟨i, i1, i2⟩ := idx z' hz'
    obtain ⟨vs, ⟨j, e, j1, j2, ev⟩, hH⟩ := qt z'.1 (List.mem_of_getElem? i1)
    have eij : i = j := (List.getElem?_inj (List.getElem?_eq_some_iff.mp i1).1 nd).mp (i1.trans j1.symm)
    subst eij
    have ee : e = z'.2 := Option.some.inj (j2.symm.trans i2)
    rw [ev, ee] at hH
    exact hH
end
end HS

/-! ### shapes, trees: plain mathematics, and what stands for them in a heap -/
namespace TR
open PySem PySem.Spec PyProof.Rows L2 HX
def Sh : Nat → Type
  | 0 => Nat
  | l + 1 => List (Sh l)
def Sh.n (s : Sh 0) : Nat := s
def Sh.ks {l : Nat} (s : Sh (l + 1)) : List (Sh l) := s
def cntS : (l : Nat) → Sh l → Nat
  | 0, n => n
  | l + 1, ks => (ks.ks.map (cntS l)).sum
def pgsS : (l : Nat) → Sh l → Nat
  | 0, _ => 1
  | l + 1, ks => 1 + (ks.ks.map (pgsS l)).sum
def loS (room l : Nat) (top : Bool) : Nat := if top = true then (if l = 0 then 0 else 2) else (room + 1) / 2
def WfSh (room : Nat) : (l : Nat) → Bool → Sh l → Prop
  | 0, top, n => loS room 0 top ≤ n.n ∧ n.n ≤ room
  | l + 1, top, ks => loS room (l + 1) top ≤ ks.ks.length ∧ ks.ks.length ≤ room ∧ ∀ k ∈ ks.ks, WfSh room l false k
/-- how many pages at most -/
def cS (room : Nat) : Nat → Nat
  | 0 => 1
  | l + 1 => 1 + room * cS room l
theorem sum_le {α : Type} {f : α → Nat} {c : Nat} : ∀ {xs : List α}, (∀ x ∈ xs, f x ≤ c) → (xs.map f).sum ≤ xs.length * c
  | [], _ => Nat.zero_le _
  | x :: xs, h => by
    have a := h x (List.mem_cons_self ..)
    have b := sum_le (f := f) (c := c) (xs := xs) fun y hy => h y (List.mem_cons_of_mem _ hy)
    rw [List.map_cons, List.sum_cons, List.length_cons, Nat.succ_mul]
    omega
theorem pgs_le {room : Nat} : ∀ {l : Nat} {top : Bool} {s : Sh l}, WfSh room l top s → pgsS l s ≤ cS room l
  | 0, _, _, _ => Nat.le_refl 1
  | l + 1, _, s, h => by
    obtain ⟨_, h2, h3⟩ := h
    have a := sum_le (f := pgsS l) (c := cS room l) (xs := s.ks) fun k hk => pgs_le (h3 k hk)
    have b : s.ks.length * cS room l ≤ room * cS room l := Nat.mul_le_mul_right _ h2
    show 1 + (s.ks.map (pgsS l)).sum ≤ 1 + room * cS room l
    omega
theorem cnt_le {room : Nat} : ∀ {l : Nat} {top : Bool} {s : Sh l}, WfSh room l top s → cntS l s ≤ room * cS room l
  | 0, _, s, h => by
    have := h.2
    show s.n ≤ room * 1
    omega
  | l + 1, _, s, h => by
    obtain ⟨_, h2, h3⟩ := h
    have a := sum_le (f := cntS l) (c := room * cS room l) (xs := s.ks) fun k hk => cnt_le (h3 k hk)
    have b : s.ks.length * (room * cS room l) ≤ room * (room * cS room l) := Nat.mul_le_mul_right _ h2
    show (s.ks.map (cntS l)).sum ≤ room * (1 + room * cS room l)
    rw [Nat.mul_add]
    omega
/-! ### in the heap -/
/-- tuples never change -/
def tpb : HO → Bool
  | .tup _ => true
  | .frz _ (.tup _) => true
  | _ => false
structure Keep (H H' : Hp) : Prop where
  all : ∀ b u, tpb u = true → H b = some u → H' b = some u
instance {H H' : Hp} : CoeFun (Keep H H') (fun _ => ∀ b xs, H b = some (.tup xs) → H' b = some (.tup xs)) := ⟨fun k b _ h => k.all b _ rfl h⟩
theorem Keep.frz {H H' : Hp} (k : Keep H H') {b : Addr} {o : Obj} {xs : List V} (h : H b = some (.frz o (.tup xs))) : H' b = some (.frz o (.tup xs)) := k.all b _ rfl h
theorem Keep.refl (H : Hp) : Keep H H := ⟨fun _ _ _ h => h⟩
theorem Keep.trans {H H1 H2 : Hp} (a : Keep H H1) (b : Keep H1 H2) : Keep H H2 := ⟨fun c u t h => b.all c u t (a.all c u t h)⟩
theorem Keep.of {H H' : Hp} (s : Same H H') : Keep H H' := ⟨fun b u _ h => s b _ h⟩
theorem tpb_no {H : Hp} {p : Addr} (h : ∀ u, H p = some u → tpb u = false) {b : Addr} {u : HO} (t : tpb u = true) (e : H b = some u) : b ≠ p := fun z => by
  subst z
  rw [h u e] at t
  cases t
theorem Keep.but {H H' : Hp} {p : Addr} (s : But p H H') (h : ∀ u, H p = some u → tpb u = false) : Keep H H' := ⟨fun b u t e => s b _ (tpb_no h t e) e⟩
theorem Keep.upd {H H' : Hp} {p : Addr} {o : HO} (s : Keep H H') (h : ∀ u, H' p = some u → tpb u = false) : Keep H (upd H' p o) := ⟨fun b u t e => by
  have z := s.all b u t e
  rw [upd_ne (tpb_no h t z)]
  exact z⟩
def ShAt (H : Hp) : (l : Nat) → V → Sh l → Prop
  | 0, v, n => v = .int (n.n : Int)
  | l + 1, v, ks => ∃ (a : Addr) (xs : List V), v = .ref a ∧ H a = some (.tup xs) ∧ Paired (ShAt H l) xs ks.ks
theorem paired_imp {α β : Type} {R R' : α → β → Prop} (h : ∀ x y, R x y → R' x y) : ∀ {xs : List α} {ys : List β}, Paired R xs ys → Paired R' xs ys
  | _, _, .nil => .nil
  | _, _, .cons r rs => .cons (h _ _ r) (paired_imp h rs)
theorem paired_snoc {α β : Type} {R : α → β → Prop} {x : α} {y : β} (h : R x y) : ∀ {xs : List α} {ys : List β}, Paired R xs ys → Paired R (xs ++ [x]) (ys ++ [y])
  | _, _, .nil => .cons h .nil
  | _, _, .cons r rs => .cons r (paired_snoc h rs)
theorem pget1 {α β : Type} {R : α → β → Prop} : ∀ {xs : List α} {ys : List β}, Paired R xs ys → ∀ {i : Nat} {x : α}, xs[i]? = some x → ∃ y, ys[i]? = some y ∧ R x y
  | _, _, .nil, i, x, h => by simp at h
  | _, _, .cons r rs, 0, x, h => by
    cases h
    exact ⟨_, rfl, r⟩
  | _, _, .cons r rs, i + 1, x, h => pget1 rs (i := i) h
theorem pget2 {α β : Type} {R : α → β → Prop} : ∀ {xs : List α} {ys : List β}, Paired R xs ys → ∀ {i : Nat} {y : β}, ys[i]? = some y → ∃ x, xs[i]? = some x ∧ R x y
  | _, _, .nil, i, x, h => by simp at h
  | _, _, .cons r rs, 0, x, h => by
    cases h
    exact ⟨_, rfl, r⟩
  | _, _, .cons r rs, i + 1, x, h => pget2 rs (i := i) h
theorem ShAt.keep {H H' : Hp} (k : Keep H H') : ∀ {l : Nat} {v : V} {s : Sh l}, ShAt H l v s → ShAt H' l v s
  | 0, _, _, h => h
  | l + 1, _, _, h => by
    obtain ⟨a, xs, rfl, h1, h2⟩ := h
    exact ⟨a, xs, rfl, k _ _ h1, paired_imp (fun _ _ r => ShAt.keep k r) h2⟩
/-- a pair of whole numbers -/
def PrAt (H : Hp) (x : V) (p : Int × Int) : Prop := ∃ t : Addr, x = .ref t ∧ H t = some (.tup [.int p.1, .int p.2])
theorem PrAt.keep {H H' : Hp} (k : Keep H H') {x : V} {p : Int × Int} (h : PrAt H x p) : PrAt H' x p := by
  obtain ⟨t, e, h1⟩ := h
  exact ⟨t, e, k _ _ h1⟩
end TR

/-! ### trees of pages: plain mathematics -/
namespace TR
open PySem PySem.Spec PyProof.Rows L2 HX
inductive Pg where
  | leaf (ps : List (Int × Int)) (nx : Int)
  | node (ks kids : List Int)
def lkp (D : List (Int × Pg)) (k : Int) : Option Pg := (D.find? fun q => decide (q.1 = k)).map (·.2)
theorem lkp_none {D : List (Int × Pg)} {k : Int} (h : ∀ q ∈ D, q.1 ≠ k) : lkp D k = none := by
  unfold lkp
  rw [List.find?_eq_none.mpr (fun q hq => by simpa using h q hq)]
  rfl
theorem lkp_ne {D : List (Int × Pg)} {k : Int} (h : lkp D k = none) : ∀ q ∈ D, q.1 ≠ k := by
  unfold lkp at h
  intro q hq e
  have z : (D.find? fun q => decide (q.1 = k)) = none := by
    cases c : D.find? fun q => decide (q.1 = k) with
    | none => rfl
    | some x => rw [c] at h; cases h
  have := List.find?_eq_none.mp z q hq
  exact this (decide_eq_true e)
theorem lkp_keep {D D' : List (Int × Pg)} {k : Int} {x : Pg} (h : lkp D k = some x) : lkp (D ++ D') k = some x := by
  unfold lkp at h ⊢
  rw [List.find?_append]
  cases c : D.find? fun q => decide (q.1 = k) with
  | none => rw [c] at h; cases h
  | some y => rw [c] at h; exact h
theorem lkp_end {D : List (Int × Pg)} {k : Int} {x : Pg} (h : lkp D k = none) : lkp (D ++ [(k, x)]) k = some x := by
  unfold lkp at h ⊢
  rw [List.find?_append]
  cases c : D.find? fun q => decide (q.1 = k) with
  | none =>
    simp
  | some y => rw [c] at h; cases h
def Tr : Nat → Type
  | 0 => Int × List (Int × Int)
  | l + 1 => Int × List Int × List (Tr l)
def lfT (n : Int) (ps : List (Int × Int)) : Tr 0 := (n, ps)
def ndT {l : Nat} (n : Int) (ks : List Int) (kids : List (Tr l)) : Tr (l + 1) := (n, ks, kids)
def Tr.ps (t : Tr 0) : List (Int × Int) := Prod.snd t
def Tr.keys {l : Nat} (t : Tr (l + 1)) : List Int := Prod.fst (Prod.snd t)
def Tr.kids {l : Nat} (t : Tr (l + 1)) : List (Tr l) := Prod.snd (Prod.snd t)
def num : (l : Nat) → Tr l → Int
  | 0, t => Prod.fst t
  | _ + 1, t => Prod.fst t
def nums : (l : Nat) → Tr l → List Int
  | 0, t => [num 0 t]
  | l + 1, t => num (l + 1) t :: t.kids.flatMap (nums l)
def prs : (l : Nat) → Tr l → List (Int × Int)
  | 0, t => t.ps
  | l + 1, t => t.kids.flatMap (prs l)
def shp : (l : Nat) → Tr l → Sh l
  | 0, t => t.ps.length
  | l + 1, t => t.kids.map (shp l)
def Laid (D : List (Int × Pg)) : (l : Nat) → Tr l → Prop
  | 0, t => ∃ nx, lkp D (num 0 t) = some (.leaf t.ps nx)
  | l + 1, t => lkp D (num (l + 1) t) = some (.node t.keys (t.kids.map (num l))) ∧ ∀ k ∈ t.kids, Laid D l k
theorem Laid.more {D D' : List (Int × Pg)} : ∀ {l : Nat} {t : Tr l}, Laid D l t → Laid (D ++ D') l t
  | 0, _, ⟨nx, h⟩ => ⟨nx, lkp_keep h⟩
  | _ + 1, _, ⟨h, g⟩ => ⟨lkp_keep h, fun k hk => (g k hk).more⟩
/-- keys between kids -/
def KBs {α : Type} (R : α → Int → Int → Prop) : Int → List Int → List α → Int → Prop
  | lo, [], [k], hi => R k lo hi
  | lo, a :: ks, k :: kids, hi => R k lo a ∧ KBs R a ks kids hi
  | _, _, _, _ => False
theorem KBs.snoc {α : Type} {R : α → Int → Int → Prop} {a hi : Int} {x : α} (hx : R x a hi) : ∀ {kids : List α} {ks : List Int} {lo : Int}, KBs R lo ks kids a → KBs R lo (ks ++ [a]) (kids ++ [x]) hi
  | [], ks, _, h => by cases ks <;> exact h.elim
  | [k], [], _, h => ⟨h, hx⟩
  | _ :: _ :: _, [], _, h => h.elim
  | k :: kids, b :: ks, _, h => ⟨h.1, KBs.snoc hx h.2⟩
theorem KBs.len {α : Type} {R : α → Int → Int → Prop} {hi : Int} : ∀ {kids : List α} {ks : List Int} {lo : Int}, KBs R lo ks kids hi → ks.length + 1 = kids.length
  | [], ks, _, h => by cases ks <;> exact h.elim
  | [k], [], _, h => rfl
  | _ :: _ :: _, [], _, h => h.elim
  | k :: kids, b :: ks, _, h => by
    have := KBs.len h.2
    simp only [List.length_cons]
    omega
/-- the pairs lie from lo on, below hi; keys between -/
def KeyB : (l : Nat) → Tr l → Int → Int → Prop
  | 0, t, lo, hi => ∀ q ∈ t.ps, lo ≤ q.1 ∧ q.1 < hi
  | l + 1, t, lo, hi => KBs (KeyB l) lo t.keys t.kids hi
/-- keys of nodes as they have to be -/
def KeyOk : (l : Nat) → Tr l → Prop
  | 0, _ => True
  | l + 1, t => t.keys.Pairwise (· < ·) ∧ (∀ k ∈ t.keys, 0 ≤ k ∧ k ≤ 1000000000) ∧ t.keys.length + 1 = t.kids.length ∧ ∀ k ∈ t.kids, KeyOk l k
/-- first comes the greater one -/
def Above (ps : List (Int × Int)) (x : Int) : Prop := ∀ q ∈ ps, x < q.1
def Below (ps : List (Int × Int)) (x : Int) : Prop := ∀ q ∈ ps, q.1 ≤ x
def All (lo hi : Int) (ps : List (Int × Int)) : Prop := ∀ q ∈ ps, lo ≤ q.1 ∧ q.1 < hi
theorem take_add' {α : Type} (xs : List α) (a b : Nat) : xs.take (a + b) = xs.take a ++ (xs.drop a).take b := by
  rw [List.take_add]
theorem cnt_pos {room : Nat} (hr : 3 ≤ room) : ∀ {l : Nat} {s : Sh l}, WfSh room l false s → 0 < cntS l s
  | 0, s, h => by
    have := h.1
    have e : loS room 0 false = (room + 1) / 2 := rfl
    rw [e] at this
    show 0 < s.n
    omega
  | l + 1, s, h => by
    obtain ⟨h1, h2, h3⟩ := h
    have e : loS room (l + 1) false = (room + 1) / 2 := rfl
    rw [e] at h1
    show 0 < (s.ks.map (cntS l)).sum
    cases c : s.ks with
    | nil =>
      rw [c] at h1
      simp only [List.length_nil] at h1
      omega
    | cons k ks =>
      have := cnt_pos hr (h3 k (by rw [c]; exact List.mem_cons_self ..))
      rw [List.map_cons, List.sum_cons]
      omega
theorem sum_more {α : Type} (f : α → Nat) {xs : List α} {i : Nat} {x : α} (h : xs[i]? = some x) : ((xs.take (i + 1)).map f).sum = ((xs.take i).map f).sum + f x := by
  rw [take_more h, List.map_append, List.sum_append]
  simp
theorem sum_part {α : Type} (f : α → Nat) (xs : List α) (i : Nat) : ((xs.take i).map f).sum ≤ (xs.map f).sum := by
  conv => rhs; rw [← List.take_append_drop i xs]
  rw [List.map_append, List.sum_append]
  omega
theorem sum_part1 {α : Type} (f : α → Nat) {xs : List α} {i : Nat} {x : α} (h : xs[i]? = some x) : ((xs.take i).map f).sum + f x ≤ (xs.map f).sum := by
  rw [← sum_more f h]
  exact sum_part f xs (i + 1)
theorem paired_take {α β : Type} {R : α → β → Prop} : ∀ {xs : List α} {ys : List β} (n : Nat), Paired R xs ys → Paired R (xs.take n) (ys.take n)
  | _, _, 0, _ => by rw [List.take_zero, List.take_zero]; exact .nil
  | _, _, _ + 1, .nil => .nil
  | _, _, n + 1, .cons r rs => .cons r (paired_take n rs)
theorem paired_drop {α β : Type} {R : α → β → Prop} : ∀ {xs : List α} {ys : List β} (n : Nat), Paired R xs ys → Paired R (xs.drop n) (ys.drop n)
  | _, _, 0, h => h
  | _, _, _ + 1, .nil => .nil
  | _, _, n + 1, .cons r rs => paired_drop n rs
theorem last_pick (last : Int) (qs : List (Int × Int)) (hs : qs.Pairwise fun a b => a.1 < b.1) (ha : Above qs last) : ∃ z, atI ([V.int last] ++ qs.map (fun q => V.int q.1)) (-1) = some (.int z) ∧ Below qs z ∧ last ≤ z ∧ (z = last ∨ ∃ q ∈ qs, z = q.1) := by
  rcases List.eq_nil_or_concat qs with rfl | ⟨r, q, rfl⟩
  · exact ⟨last, rfl, (fun q hq => nomatch hq), Int.le_refl _, .inl rfl⟩
  · rw [List.concat_eq_append] at hs ha ⊢
    have hm : q ∈ r ++ [q] := List.mem_append_right _ (List.mem_singleton.mpr rfl)
    refine ⟨q.1, ?_, fun y hy => ?_, Int.le_of_lt (ha q hm), .inr ⟨q, hm, rfl⟩⟩
    · refine at_last (n := r.length + 1) (by simp) ?_
      rw [List.map_append, ← List.append_assoc, List.getElem?_append_right (by simp)]
      simp
    · rcases List.mem_append.mp hy with hy | hy
      · exact Int.le_of_lt ((List.pairwise_append.mp hs).2.2 y hy q (List.mem_singleton.mpr rfl))
      · obtain rfl := List.mem_singleton.mp hy
        exact Int.le_refl _
/-- what is laid when a shape is gone through -/
structure Gen (l : Nat) (s : Sh l) (t : Tr l) (ps : List (Int × Int)) (ns : List Int) (D D' : List (Int × Pg)) (last last' : Int) : Prop where
  shape : shp l t = s
  pairs : prs l t = ps.take (cntS l s)
  number : nums l t = ns.take (pgsS l s)
  keys : (D'.map (·.1)).Perm (nums l t)
  laid : Laid (D ++ D') l t
  keyB : ∀ lo hi, All lo hi (ps.take (cntS l s)) → KeyB l t lo hi
  keyOk : KeyOk l t
  below : Below (ps.take (cntS l s)) last'
  above : Above (ps.drop (cntS l s)) last'
  le : last ≤ last'
  le9 : last' ≤ 1000000000
theorem Gen.num_head {l : Nat} {s : Sh l} {t : Tr l} {ps : List (Int × Int)} {ns : List Int} {D D' : List (Int × Pg)} {last last' : Int} (_ : Gen l s t ps ns D D' last last') : ∃ r, nums l t = num l t :: r := by
  cases l with
  | zero => exact ⟨[], rfl⟩
  | succ l => exact ⟨_, rfl⟩
/-! ### lists of whole numbers as data -/
theorem dpa_ints {K : PySem.W.Frag} {H : Hp} : ∀ ns : List Int, DpAll K H (ns.map V.int) (ns.map PyData.int)
  | [] => .nil
  | n :: ns => .cons (.int n) (dpa_ints ns)
theorem lay_ints : ∀ ns : List Int, PyData.canLayAll0 (ns.map PyData.int) = true
  | [] => by simp only [List.map_nil, PyData.canLayAll0]
  | n :: ns => by simp only [List.map_cons, PyData.canLayAll0, PyData.canLay0, lay_ints ns, Bool.and_self]
theorem deep_ints : ∀ ns : List Int, PyData.depthAll (ns.map PyData.int) = 0
  | [] => by simp only [List.map_nil, PyData.depthAll]
  | n :: ns => by simp only [List.map_cons, PyData.depthAll, PyData.depth, deep_ints ns, Nat.max_self]
theorem shaped_ints (ns : List Int) : SeqAt.shaped (.list (ns.map PyData.int)) = true := by
  unfold SeqAt.shaped
  simp only [PyData.canLay0, lay_ints ns, PyData.depth, deep_ints ns]
  decide
theorem eqv_intsA : ∀ a b : List Int, PyData.eqvAll (a.map PyData.int) (b.map PyData.int) = decide (a = b)
  | [], [] => by simp only [List.map_nil, PyData.eqvAll]; rfl
  | [], _ :: _ => by simp only [List.map_nil, List.map_cons, PyData.eqvAll]; rfl
  | _ :: _, [] => by simp only [List.map_nil, List.map_cons, PyData.eqvAll]; rfl
  | x :: a, y :: b => by
    simp only [List.map_cons, PyData.eqvAll, PyData.eqv, eqv_intsA a b]
    by_cases e : x = y
    · subst e
      simp
    · simp [e]
theorem eqv_ints (a b : List Int) : PyData.eqv (.list (a.map PyData.int)) (.list (b.map PyData.int)) = decide (a = b) := by
  simp only [PyData.eqv, eqv_intsA]
/-- the first kids -/
structure Mid (l : Nat) (s : List (Sh l)) (i : Nat) (ts : List (Tr l)) (ks : List Int) (ps : List (Int × Int)) (ns : List Int) (D D' : List (Int × Pg)) (last last' : Int) : Prop where
  shapes : ts.map (shp l) = s.take i
  pairs : ts.flatMap (prs l) = ps.take ((s.take i).map (cntS l)).sum
  number : ts.flatMap (nums l) = ns.take ((s.take i).map (pgsS l)).sum
  perm : (D'.map (·.1)).Perm (ts.flatMap (nums l))
  laid : ∀ t ∈ ts, Laid (D ++ D') l t
  kb : ∀ lo hi, i ≠ 0 → All lo hi (ps.take ((s.take i).map (cntS l)).sum) → KBs (KeyB l) lo ks ts hi
  empty : i = 0 → ks = []
  rising : ks.Pairwise (· < ·)
  range : ∀ x ∈ ks, 0 ≤ x ∧ x ≤ last'
  keyOk : ∀ t ∈ ts, KeyOk l t
  below : Below (ps.take ((s.take i).map (cntS l)).sum) last'
  above : Above (ps.drop ((s.take i).map (cntS l)).sum) last'
  le : last ≤ last'
  last0 : -1 ≤ last
  le9 : last' ≤ 1000000000
  few : ks.length ≤ i
theorem Mid.zero {l : Nat} {s : List (Sh l)} {ps : List (Int × Int)} {ns : List Int} {D : List (Int × Pg)} {last : Int} (ha : Above ps last) (h0 : -1 ≤ last) (h9 : last ≤ 1000000000) : Mid l s 0 [] [] ps ns D [] last last :=
  ⟨rfl, rfl, rfl, .nil, (fun _ h => nomatch h), (fun _ _ h => (h rfl).elim), fun _ => rfl, .nil, (fun _ h => nomatch h), (fun _ h => nomatch h), (fun _ h => nomatch h), ha, Int.le_refl _, h0, h9, Nat.le_refl _⟩
theorem Mid.step {l : Nat} {s : List (Sh l)} {i : Nat} {ts : List (Tr l)} {ks ks' : List Int} {ps : List (Int × Int)} {ns : List Int} {D D' D5 : List (Int × Pg)} {last last' last5 : Int} {k : Sh l} {t : Tr l}
    (h : Mid l s i ts ks ps ns D D' last last') (hk : s[i]? = some k)
    (hks : (i = 0 ∧ ks' = []) ∨ (i ≠ 0 ∧ ∃ a, ks' = ks ++ [a] ∧ last' < a ∧ ∀ q ∈ ps.drop ((s.take i).map (cntS l)).sum, a ≤ q.1))
    (g : Gen l k t (ps.drop ((s.take i).map (cntS l)).sum) (ns.drop ((s.take i).map (pgsS l)).sum) (D ++ D') D5 last' last5)
    (cp : 0 < cntS l k) (hm : ((s.take i).map (cntS l)).sum + cntS l k ≤ ps.length) : Mid l s (i + 1) (ts ++ [t]) ks' ps ns D (D' ++ D5) last last5 := by
  have le : last' ≤ last5 := g.le
  have ec := sum_more (cntS l) hk
  have ep := sum_more (pgsS l) hk
  have et : ps.take ((s.take (i + 1)).map (cntS l)).sum = ps.take ((s.take i).map (cntS l)).sum ++ (ps.drop ((s.take i).map (cntS l)).sum).take (cntS l k) := by rw [ec, List.take_add]
  have en : ns.take ((s.take (i + 1)).map (pgsS l)).sum = ns.take ((s.take i).map (pgsS l)).sum ++ (ns.drop ((s.take i).map (pgsS l)).sum).take (pgsS l k) := by rw [ep, List.take_add]
  have ed : ps.drop ((s.take (i + 1)).map (cntS l)).sum = (ps.drop ((s.take i).map (cntS l)).sum).drop (cntS l k) := by rw [ec, List.drop_drop]
  refine ⟨?_, ?_, ?_, ?_, ?_, ?_, ?_, ?_, ?_, ?_, ?_, ?_, Int.le_trans h.le le, h.last0, g.le9, ?_⟩
  · rw [List.map_append, h.shapes, take_more hk, ← g.shape]
    rfl
  · rw [List.flatMap_append, h.pairs, et, ← g.pairs]
    simp
  · rw [List.flatMap_append, h.number, en, ← g.number]
    simp
  · rw [List.map_append, List.flatMap_append]
    refine h.perm.append ?_
    rw [show [t].flatMap (nums l) = nums l t by simp]
    exact g.keys
  · intro u hu
    rw [← List.append_assoc]
    rcases List.mem_append.mp hu with hu | hu
    · exact (h.laid u hu).more
    · obtain rfl := List.mem_singleton.mp hu
      exact g.laid
  · intro lo hi _ hall
    rw [et] at hall
    rcases hks with ⟨e, rfl⟩ | ⟨e, a, rfl, h1, h2⟩
    · have : ts = [] := by
        have z := congrArg List.length h.shapes
        rw [List.length_map, e, List.take_zero] at z
        exact List.eq_nil_of_length_eq_zero z
      subst this
      exact g.keyB lo hi fun q hq => hall q (List.mem_append_right _ hq)
    · refine KBs.snoc (g.keyB a hi fun q hq => ⟨h2 q (List.mem_of_mem_take hq), (hall q (List.mem_append_right _ hq)).2⟩) (h.kb lo a e fun q hq => ⟨(hall q (List.mem_append_left _ hq)).1, ?_⟩)
      have := h.below q hq
      omega
  · intro e
    omega
  · rcases hks with ⟨e, rfl⟩ | ⟨e, a, rfl, h1, h2⟩
    · exact .nil
    · refine List.pairwise_append.mpr ⟨h.rising, List.pairwise_singleton _ _, fun x hx y hy => ?_⟩
      obtain rfl := List.mem_singleton.mp hy
      have := (h.range x hx).2
      omega
  · intro x hx
    rcases hks with ⟨e, rfl⟩ | ⟨e, a, rfl, h1, h2⟩
    · cases hx
    · rcases List.mem_append.mp hx with hx | hx
      · have := h.range x hx
        exact ⟨this.1, by omega⟩
      · obtain rfl := List.mem_singleton.mp hx
        have h3 := h.le
        have h4 := h.last0
        refine ⟨by omega, ?_⟩
        cases c : (ps.drop ((s.take i).map (cntS l)).sum).take (cntS l k) with
        | nil =>
          have z := congrArg List.length c
          rw [List.length_take, List.length_drop, List.length_nil] at z
          omega
        | cons q qs =>
          have hq : q ∈ (ps.drop ((s.take i).map (cntS l)).sum).take (cntS l k) := by rw [c]; exact List.mem_cons_self ..
          have z1 := h2 q (List.mem_of_mem_take hq)
          have z2 := g.below q hq
          omega
  · intro u hu
    rcases List.mem_append.mp hu with hu | hu
    · exact h.keyOk u hu
    · obtain rfl := List.mem_singleton.mp hu
      exact g.keyOk
  · rw [et]
    intro q hq
    rcases List.mem_append.mp hq with hq | hq
    · exact Int.le_trans (h.below q hq) le
    · exact g.below q hq
  · rw [ed]
    exact g.above
  · rcases hks with ⟨e, rfl⟩ | ⟨e, a, rfl, h1, h2⟩
    · exact Nat.zero_le _
    · have := h.few
      rw [List.length_append]
      show ks.length + 1 ≤ i + 1
      omega
theorem Mid.done {l : Nat} {s : Sh (l + 1)} {z : Int} {ts : List (Tr l)} {ks : List Int} {ps : List (Int × Int)} {ns : List Int} {D D' : List (Int × Pg)} {last last' : Int}
    (h : Mid l s.ks s.ks.length ts ks ps ns D D' last last') (hn : s.ks.length ≠ 0) (hall : All 0 1000000001 ps) (hz : lkp D z = none) (hz2 : z ∉ ns) :
    Gen (l + 1) s (ndT z ks ts) ps (z :: ns) D (D' ++ [(z, .node ks (ts.map (num l)))]) last last' := by
  have ec : cntS (l + 1) s = ((s.ks.take s.ks.length).map (cntS l)).sum := by rw [List.take_length]; rfl
  have ep : pgsS (l + 1) s = ((s.ks.take s.ks.length).map (pgsS l)).sum + 1 := by rw [List.take_length]; exact Nat.add_comm _ _
  have hkb : ∀ lo hi, All lo hi (ps.take (cntS (l + 1) s)) → KBs (KeyB l) lo ks ts hi := fun lo hi hl => h.kb lo hi hn (by rw [← ec]; exact hl)
  have hd' : lkp (D ++ D') z = none := lkp_none fun q hq e => by
    rcases List.mem_append.mp hq with hq | hq
    · exact lkp_ne hz q hq e
    · have m : q.1 ∈ ts.flatMap (nums l) := h.perm.mem_iff.mp (List.mem_map_of_mem hq)
      rw [h.number, e] at m
      exact hz2 (List.mem_of_mem_take m)
  refine ⟨?_, ?_, ?_, ?_, ⟨?_, ?_⟩, hkb, ⟨h.rising, fun k hk => ?_, ?_, h.keyOk⟩, ?_, ?_, h.le, h.le9⟩
  · have := h.shapes
    rw [List.take_length] at this
    exact this
  · rw [ec]
    exact h.pairs
  · rw [ep]
    show z :: ts.flatMap (nums l) = z :: ns.take _
    rw [h.number]
  · show ((D' ++ [(z, Pg.node ks (ts.map (num l)))]).map (·.1)).Perm (z :: ts.flatMap (nums l))
    rw [List.map_append]
    refine (List.perm_append_comm (l₁ := D'.map (·.1)) (l₂ := [z])).trans ?_
    exact List.Perm.cons z h.perm
  · rw [← List.append_assoc]
    exact lkp_end hd'
  · intro k hk
    rw [← List.append_assoc]
    exact (h.laid k hk).more
  · have a := h.range k hk
    have b := h.le9
    exact ⟨a.1, by omega⟩
  · exact (hkb 0 1000000001 fun q hq => hall q (List.mem_of_mem_take hq)).len
  · rw [ec]
    exact h.below
  · rw [ec]
    exact h.above
end TR

/-! ### more rules -/
namespace RU
open PySem PySem.Spec PyProof.Rows L2 HX RZ
section
variable {X : Cx}
def rSeq (K : PySem.W.Frag) : V → Option Int → Option Int → Hp → VK → Prop := fun x lo hi H Q => rSlL K x lo hi H Q ∨ rSlA K x lo hi H Q
theorem sl_seq : SlR X (rSeq X.K) := SlR.or sl_list sl_tupA
end
theorem walk_zipT {K : PySem.W.Frag} {a b : Addr} {xs ys : List V} {n : Nat} (hn : n = min xs.length ys.length) : Walk (ItzT K a b) n (fun H => SqT K H a xs ∧ SqT K H b ys) (YPair (fun i => xs[i]?) (fun i => ys[i]?)) := by
  subst hn
  refine ⟨fun i _ hi q => ?_, fun _ q => ⟨xs, ys, q.1, q.2, by omega⟩, fun i H v H' _ q y => ?_⟩
  · have h1 : i < xs.length := by omega
    have h2 : i < ys.length := by omega
    exact ⟨xs, ys, xs[i], ys[i], q.1, q.2, by simp [h1], by simp [h2]⟩
  · obtain ⟨T, x, z, h1, h2, h3, h4, h5⟩ := y
    exact ⟨T, x, z, h1, h2, h3, h4 xs q.1, h5 ys q.2⟩
end RU
/-! ### zip of three tuples -/
namespace RU
open PySem PySem.Spec PyProof.Rows L2 HX RZ
def ItzT3 (K : PySem.W.Frag) (a b c : Addr) : It :=
  ⟨fun i H => ∃ (xs ys zs : List V), SqT K H a xs ∧ SqT K H b ys ∧ SqT K H c zs ∧ i < min (min xs.length ys.length) zs.length,
    fun i H v H' => ∃ T x y z, v = .ref T ∧ H T = none ∧ H' = upd H T (.tup [x, y, z]) ∧ (∀ xs, SqT K H a xs → xs[i]? = some x) ∧ (∀ ys, SqT K H b ys → ys[i]? = some y) ∧ ∀ zs, SqT K H c zs → zs[i]? = some z,
    fun i H => ∃ xs ys zs : List V, SqT K H a xs ∧ SqT K H b ys ∧ SqT K H c zs ∧ i = min (min xs.length ys.length) zs.length⟩
def Zn3 (z TI TO i1 i2 i3 a b c : Addr) (i : Nat) (h : Heap) : Prop := IsZip h z TI TO .none ∧ IsTupOf3 h TI (.ref i1) (.ref i2) (.ref i3) ∧ (∃ x y u, IsTupOf3 h TO x y u) ∧ h.IsTupleIter i1 a i ∧ h.IsTupleIter i2 b i ∧ h.IsTupleIter i3 c i
theorem turn_zip3 {P : Program} {w : World} {K : PySem.W.Frag} {elts : List Expr} {kk : Nat} {tpos : Pos} {a b c z TI TO i1 i2 i3 : Addr} (S : ZipSep3 z TI TO i1 i2 i3 [i1, a] [i2, b] [i3, c]) (na : a ≠ i1) (nb : b ≠ i2) (nc : c ≠ i3) :
    Turn P w K (.Tuple elts kk tpos) (ItzT3 K a b c) [z, TI, TO, i1, i2, i3] z (Zn3 z TI TO i1 i2 i3 a b c) where
  mem := by simp
  obj := fun i h st m hm => by
    obtain ⟨hz, hTI, ⟨x, y, u, hTO⟩, ⟨o1, e1, _, d1⟩, ⟨o2, e2, _, d2⟩, ⟨o3, e3, _, d3⟩⟩ := st
    have e' : m = z ∨ m = TI ∨ m = TO ∨ m = i1 ∨ m = i2 ∨ m = i3 := by simpa using hm
    rcases e' with q | q | q | q | q | q
    · rw [q]; exact ⟨_, hz, fun v q => nomatch q⟩
    · rw [q]; exact ⟨_, hTI, fun v q => nomatch q⟩
    · rw [q]; exact ⟨_, hTO, fun v q => nomatch q⟩
    · rw [q]; exact ⟨o1, e1, fun v q => by rw [d1] at q; cases q⟩
    · rw [q]; exact ⟨o2, e2, fun v q => by rw [d2] at q; cases q⟩
    · rw [q]; exact ⟨o3, e3, fun v q => by rw [d3] at q; cases q⟩
  keep := fun i h h' st k => by
    obtain ⟨hz, hTI, ⟨x, y, u, hTO⟩, h1, h2, h3⟩ := st
    exact ⟨k z (by simp) _ hz, k TI (by simp) _ hTI, ⟨x, y, u, k TO (by simp) _ hTO⟩, h1.at fun o q => k i1 (by simp) o q, h2.at fun o q => k i2 (by simp) o q, h3.at fun o q => k i3 (by simp) o q⟩
  item := by
    intro X hP hw hK hc i pins s σ H E I hf st hg
    subst hP hw hK
    obtain ⟨hz, hTI, hTO, h1, h2, h3⟩ := st
    obtain ⟨xs, ys, zs, hqx, hqy, hqz, hlt⟩ := hg
    obtain ⟨its, rv, p, _⟩ := I.tuple hqx
    obtain ⟨its2, rv2, p2, _⟩ := I.tuple hqy
    obtain ⟨its3, rv3, p3, _⟩ := I.tuple hqz
    have hh : X.A.handled = none := I.ok.hd hc
    have W := GoesN.zip3 (prog := X.prog) (w := X.w) (A := X.A) (elts := elts) (x1 := kk) (pos := tpos) S (Draws.tuple (A := X.A.in1) hh i1 a na its.toArray) (Draws.tuple (A := X.A.in1) hh i2 b nb its2.toArray) (Draws.tuple (A := X.A.in1) hh i3 c nc its3.toArray)
    have l1 := rv.length
    have l2 := rv2.length
    have l3 := rv3.length
    refine W.goes i s (fun u s2 => ∃ x H', Inv X pins σ H' s2 ∧ RelV x u ∧ (ItzT3 X.K a b c).yld i H x H' ∧ Zn3 z TI TO i1 i2 i3 a b c (i + 1) s2.heap ∧ ∀ b ∈ [z, TI, TO, i1, i2, i3], H' b = none) E (by simp only [List.size_toArray]; omega) ⟨hz, hTI, hTO, ⟨h1, p⟩, ⟨h2, p2⟩, ⟨h3, p3⟩⟩ fun v h' tk hY st' hk htk => ?_
    obtain ⟨T, u1, u2, u3, rfl, hT, e1, e2, e3, hTt⟩ := hY
    have hx : xs[i]? = some (xs[i]'(by omega)) := List.getElem?_eq_getElem (by omega)
    have hy : ys[i]? = some (ys[i]'(by omega)) := List.getElem?_eq_getElem (by omega)
    have hw' : zs[i]? = some (zs[i]'(by omega)) := List.getElem?_eq_getElem (by omega)
    obtain ⟨v1, hu1, r1⟩ := rv.get hx
    obtain ⟨v2, hu2, r2⟩ := rv2.get hy
    obtain ⟨v3, hu3, r3⟩ := rv3.get hw'
    have q1 : v1 = u1 := by
      have : its.toArray[i]? = some v1 := by simpa using hu1
      rw [this] at e1
      exact Option.some.inj e1
    have q2 : v2 = u2 := by
      have : its2.toArray[i]? = some v2 := by simpa using hu2
      rw [this] at e2
      exact Option.some.inj e2
    have q3 : v3 = u3 := by
      have : its3.toArray[i]? = some v3 := by simpa using hu3
      rw [this] at e3
      exact Option.some.inj e3
    subst q1 q2 q3
    have new : ObjOk X.prog X.w (upd H T (.tup [xs[i]'(by omega), ys[i]'(by omega), zs[i]'(by omega)])) h' T (.tup [xs[i]'(by omega), ys[i]'(by omega), zs[i]'(by omega)]) := ⟨by show 3 ≤ sizeLine; decide, [v1, v2, v3], .cons r1 (.cons r2 (.cons r3 .nil)), hTt⟩
    have hf' : ∀ m ∈ [z, TO, i1, i2, i3], FpOk X pins H m := fun m hm => hf m (by
      have e' : m = z ∨ m = TO ∨ m = i1 ∨ m = i2 ∨ m = i3 := by simpa using hm
      rcases e' with q | q | q | q | q <;> simp [q])
    have I1 := I.turnedNew (t' := tk) (ch := [z, TO, i1, i2, i3]) hk hf' hT new
    refine ⟨.ref T, _, I1, rfl, ⟨T, _, _, _, rfl, I.hok.fresh hT, rfl, fun l hl => by rw [I.tuple_inj hl hqx]; exact hx, fun l hl => by rw [I.tuple_inj hl hqy]; exact hy, fun l hl => by rw [I.tuple_inj hl hqz]; exact hw'⟩, ⟨st'.1, st'.2.1, st'.2.2.1, st'.2.2.2.1.1, st'.2.2.2.2.1.1, st'.2.2.2.2.2.1⟩, fun m hm => ?_⟩
    have e' : m = z ∨ m = TI ∨ m = TO ∨ m = i1 ∨ m = i2 ∨ m = i3 := by simpa using hm
    have hlt2 : m < s.heap.objs.size := by
      obtain ⟨x, y, u, hTO⟩ := hTO
      rcases e' with q | q | q | q | q | q
      · rw [q]; exact Heap.lt_size hz
      · rw [q]; exact Heap.lt_size hTI
      · rw [q]; exact Heap.lt_size hTO
      · rw [q]; obtain ⟨_, e1, _⟩ := h1; exact Heap.lt_size e1
      · rw [q]; obtain ⟨_, e2, _⟩ := h2; exact Heap.lt_size e2
      · rw [q]; obtain ⟨_, e3, _⟩ := h3; exact Heap.lt_size e3
    rw [upd_ne (Nat.ne_of_lt (Nat.lt_of_lt_of_le hlt2 hT))]
    exact (hf m hm).1
  done := by
    intro X hP hw hK hc i pins s σ H E I hf st hg
    subst hP hw hK
    obtain ⟨hz, hTI, hTO, h1, h2, h3⟩ := st
    obtain ⟨xs, ys, zs, hqx, hqy, hqz, hend⟩ := hg
    obtain ⟨its, rv, p, _⟩ := I.tuple hqx
    obtain ⟨its2, rv2, p2, _⟩ := I.tuple hqy
    obtain ⟨its3, rv3, p3, _⟩ := I.tuple hqz
    have hh : X.A.handled = none := I.ok.hd hc
    have W := GoesN.zip3 (prog := X.prog) (w := X.w) (A := X.A) (elts := elts) (x1 := kk) (pos := tpos) S (Draws.tuple (A := X.A.in1) hh i1 a na its.toArray) (Draws.tuple (A := X.A.in1) hh i2 b nb its2.toArray) (Draws.tuple (A := X.A.in1) hh i3 c nc its3.toArray)
    have l1 := rv.length
    have l2 := rv2.length
    have l3 := rv3.length
    have en : i = min (min its.toArray.size its2.toArray.size) its3.toArray.size := by simp only [List.size_toArray]; omega
    subst en
    have hf' : ∀ m ∈ [z, TO, i1, i2, i3], FpOk X pins H m := fun m hm => hf m (by
      have e' : m = z ∨ m = TO ∨ m = i1 ∨ m = i2 ∨ m = i3 := by simpa using hm
      rcases e' with q | q | q | q | q <;> simp [q])
    exact W.stops s (fun s1 => Inv X pins σ H s1) E ⟨hz, hTI, hTO, ⟨h1, p⟩, ⟨h2, p2⟩, ⟨h3, p3⟩⟩ fun h' tk hk htk => I.turnedL (t' := tk) (ch := [z, TO, i1, i2, i3]) hk hf'
  self := fun A i s Q E st h => wpAny_pyIter_zip st.1 h
def iZip3 (K : PySem.W.Frag) (ta : TA) : TI := fun σ H R => ta σ H fun vs H1 => ∃ a b c xs ys zs, vs = [.ref a, .ref b, .ref c] ∧ SqT K H1 a xs ∧ SqT K H1 b ys ∧ SqT K H1 c zs ∧ R (ItzT3 K a b c) H1
theorem pi_zip3 {X : Cx} {e e2 e3 : Expr} {ta : TA} {p pos tpos : Pos} {elts : List Expr} {kk : Nat} (hg : Gl X "zip") (hm : X.mg "zip" = none) (ha : PA X [e, e2, e3] ta)
    (hs : starEach [e, e2, e3] X.env = (false, eval e X.env) :: starEach [e2, e3] X.env := by rfl) (hpl : (backTo pos (starEach [e2, e3] X.env)).any (·.1) = false := by rfl) :
    PI X (.Tuple elts kk tpos) (.Call (.Name "zip" p) [e, e2, e3] [] pos) (iZip3 X.K ta) := by
  refine ⟨fun pins s σ H R I h => ?_⟩
  refine Call_ (ld_blt I hg hm PyProof.Rows.boot_zip (PyProof.Rows.callWith_type1 (thn (ha.run pos pins s σ H _ I h) fun us s1 ⟨vs, H1, I1, r1, q1⟩ => ?_) hs hpl))
  obtain ⟨a, b, c, xs, ys, zs, ex, hqx, hqy, hqz, q⟩ := q1
  subst ex
  cases r1 with
  | cons r rr =>
    cases rr with
    | cons r' rr =>
      cases rr with
      | cons r'' rr =>
        cases rr
        cases r
        cases r'
        cases r''
        have fresh6 : ∀ m, m ∈ [s1.heap.objs.size + 5, s1.heap.objs.size + 3, s1.heap.objs.size + 4, s1.heap.objs.size, s1.heap.objs.size + 1, s1.heap.objs.size + 2] → FpOk X pins H1 m := fun m hcm => by
          have e' : m = s1.heap.objs.size + 5 ∨ m = s1.heap.objs.size + 3 ∨ m = s1.heap.objs.size + 4 ∨ m = s1.heap.objs.size ∨ m = s1.heap.objs.size + 1 ∨ m = s1.heap.objs.size + 2 := by simpa using hcm
          have hle : s1.heap.objs.size ≤ m := by
            rcases e' with z | z | z | z | z | z
            · rw [z]; exact Nat.le_add_right _ _
            · rw [z]; exact Nat.le_add_right _ _
            · rw [z]; exact Nat.le_add_right _ _
            · rw [z]; exact Nat.le_refl _
            · rw [z]; exact Nat.le_add_right _ _
            · rw [z]; exact Nat.le_add_right _ _
          exact I1.fpOk hle (I1.hok.fresh hle)
        obtain ⟨its, rv, p1, _⟩ := I1.tuple hqx
        obtain ⟨its2, rv2, p2, _⟩ := I1.tuple hqy
        obtain ⟨its3, rv3, p3, _⟩ := I1.tuple hqz
        obtain ⟨o1, ho1, _⟩ := id p1
        obtain ⟨o2, ho2, _⟩ := id p2
        obtain ⟨o3, ho3, _⟩ := id p3
        have la := Heap.lt_size ho1
        have lb := Heap.lt_size ho2
        have lc := Heap.lt_size ho3
        refine zip_begins3 (begins_tuple a its.toArray) (begins_tuple b its2.toArray) (begins_tuple c its3.toArray) p1 p2 p3 fun h' hz hTI hTO h1 h2 h3 hsz hk => wpAny_pyIter_zip hz ?_
        have I2 : Inv X pins σ H1 { s1 with heap := h' } := I1.kept (t' := s1.toks) hk
        have S : ZipSep3 (s1.heap.objs.size + 5) (s1.heap.objs.size + 3) (s1.heap.objs.size + 4) s1.heap.objs.size (s1.heap.objs.size + 1) (s1.heap.objs.size + 2) [s1.heap.objs.size, a] [s1.heap.objs.size + 1, b] [s1.heap.objs.size + 2, c] :=
          zip_sep3 (fun m hm => by rw [List.mem_singleton.mp hm]; exact la) (fun m hm => by rw [List.mem_singleton.mp hm]; exact lb) (fun m hm => by rw [List.mem_singleton.mp hm]; exact lc)
        exact ⟨s1.heap.objs.size + 5, [s1.heap.objs.size + 5, s1.heap.objs.size + 3, s1.heap.objs.size + 4, s1.heap.objs.size, s1.heap.objs.size + 1, s1.heap.objs.size + 2], _, _, H1, rfl, I2,
          turn_zip3 S (Nat.ne_of_lt la) (Nat.ne_of_lt (Nat.lt_of_lt_of_le lb (Nat.le_add_right _ _))) (Nat.ne_of_lt (Nat.lt_of_lt_of_le lc (Nat.le_add_right _ _))), ⟨hz, hTI, ⟨_, _, _, hTO⟩, ⟨_, h1, rfl, rfl⟩, ⟨_, h2, rfl, rfl⟩, ⟨_, h3, rfl, rfl⟩⟩, fresh6, q⟩
def YTrip (xs ys zs : Nat → Option V) : Nat → Hp → V → Hp → Prop := fun i H v H' => ∃ T x y z, v = .ref T ∧ H T = none ∧ H' = upd H T (.tup [x, y, z]) ∧ xs i = some x ∧ ys i = some y ∧ zs i = some z
theorem walk_zip3 {K : PySem.W.Frag} {a b c : Addr} {xs ys zs : List V} {n : Nat} (hn : n = min (min xs.length ys.length) zs.length) : Walk (ItzT3 K a b c) n (fun H => SqT K H a xs ∧ SqT K H b ys ∧ SqT K H c zs) (YTrip (fun i => xs[i]?) (fun i => ys[i]?) (fun i => zs[i]?)) := by
  subst hn
  refine ⟨fun i _ hi q => ⟨xs, ys, zs, q.1, q.2.1, q.2.2, hi⟩, fun _ q => ⟨xs, ys, zs, q.1, q.2.1, q.2.2, rfl⟩, fun i H v H' _ q y => ?_⟩
  obtain ⟨T, x, y1, z, h1, h2, h3, h4, h5, h6⟩ := y
  exact ⟨T, x, y1, z, h1, h2, h3, h4 xs q.1, h5 ys q.2.1, h6 zs q.2.2⟩
end RU

/-! ### dict of a tuple of pairs; fields as targets -/
namespace RU
open PySem PySem.Spec PyProof.Rows L2 HX RZ
section
variable {X : Cx} {pins : List (Addr × Obj)}
/-- tuple(xs) of a list: a new tuple, of which one knows that it has no dict -/
theorem call_tupF : CallR X (.type "tuple") (fun xs H Q => ∃ p ys, xs = [.ref p] ∧ SqL X.K H p ys ∧ ∀ l o, H l = none → o.dict = none → Q (.ref l) (upd H l (.frz o (.tup ys)))) := by
  intro pins s σ H xs us Q I r h
  obtain ⟨p, ys, rfl, hq, q⟩ := h
  obtain ⟨u, rfl, rx⟩ := vals1 r
  cases rx
  obtain ⟨its, r', pl, hz⟩ := I.list hq
  have hlen := r'.length
  refine call_tuple_list pl.isList (fun h' kp => ?_) (by simp only [List.size_toArray] <;> omega)
  have I1 : Inv X pins σ H { s with heap := h' } := I.kept (t' := s.toks) kp
  have I2 : Inv X pins σ (upd H h'.objs.size (.frz { cls := .type "tuple", data := .seq its.toArray } (.tup ys))) { s with heap := h'.push { cls := .type "tuple", data := .seq its.toArray } } :=
    I1.laid (t' := s.toks) (fun b o e => Heap.get?_push_of_some _ e) (Nat.le_refl _) (show ObjOk X.prog X.w _ _ _ (.frz _ (.tup ys)) from ⟨Heap.get?_push_size _ rfl, hz, its, r', IsTup.new _ _⟩)
  exact ⟨.ref h'.objs.size, _, I2, rfl, q _ _ (I1.hok.fresh (Nat.le_refl _)) rfl⟩
theorem pairs_of2 {pins : List (Addr × Obj)} {σ : L2.St} {H : Hp} {s : Shared} (I : Inv X pins σ H s) : ∀ {ps : List Addr} {kvs : List (Key × V)}, Paired (fun p kv => SqT X.K H p [kV kv.1, kv.2]) ps kvs →
    ∃ (prs : List (Key × Value)) (pv : List (Value × Value)), KV kvs prs ∧ prs.length = ps.length ∧ pv.length = ps.length ∧ ∀ (j : Nat) (k v : Value), pv[j]? = some (k, v) → ∃ (b : Addr) (key : Key), ps[j]? = some b ∧ IsTup s.heap b #[k, v] ∧ prs[j]? = some (key, v) ∧ keyIs key k = true
  | _, _, .nil => ⟨[], [], .nil, rfl, rfl, fun j k v e => by simp at e⟩
  | _, _, .cons (a := p) (b := kv) h t => by
    obtain ⟨prs, pv, r, hl, hl2, hp⟩ := pairs_of2 I t
    obtain ⟨its, rv, ht, _⟩ := I.tuple h
    obtain ⟨u, y, ei, ru, ry⟩ := vals2 rv
    subst ei
    refine ⟨(kv.1, y) :: prs, (u, y) :: pv, .cons ⟨rfl, ry⟩ r, by rw [List.length_cons, List.length_cons, hl], by rw [List.length_cons, List.length_cons, hl2], fun j k v e => ?_⟩
    cases j with
    | zero =>
      have e' : (u, y) = (k, v) := Option.some.inj e
      injection e' with e1 e2
      subst e1 e2
      exact ⟨p, kv.1, rfl, ht, rfl, kV_is (P := X.prog) (w := X.w) ru⟩
    | succ j =>
      obtain ⟨b, key, e1, e2, e3, e4⟩ := hp j k v (by simpa using e)
      exact ⟨b, key, by simpa using e1, e2, by simpa using e3, e4⟩
def rDictT (K : PySem.W.Frag) : List V → Hp → VK → Prop := fun xs H Q => ∃ (a : Addr) (o : Obj) (ps : List Addr) (kvs : List (Key × V)), xs = [.ref a] ∧ H a = some (.frz o (.tup (ps.map V.ref))) ∧ o.dict = none ∧ Paired (fun p kv => SqT K H p [kV kv.1, kv.2]) ps kvs ∧
  ∀ p, H p = none → Q (.ref p) (upd H p (.dK (mergeK [] kvs)))
theorem call_dictT (hcalm : X.calm = true) : CallR X (.type "dict") (rDictT X.K) := by
  intro pins s σ H xs us Q I r q
  obtain ⟨a, o, ps, kvs, ex, ha, hdo, hp, q⟩ := q
  subst ex
  obtain ⟨u, eu, rx⟩ := vals1 r
  subst eu
  cases rx
  have ok : ObjOk X.prog X.w H s.heap a (.frz o (.tup (ps.map V.ref))) := I.hok a _ ha
  obtain ⟨hg, hz, its, rv, o', hg', hc, n, hd⟩ := ok
  rw [hg] at hg'
  cases hg'
  have ei := refs_at rv
  subst ei
  obtain ⟨prs, pv, rel, hl, hl2, hpr⟩ := pairs_of2 I hp
  rw [List.length_map] at hz
  have hitems : PairItems s.heap (ps.map Value.ref).toArray (fun j => (ps[j]?).getD 0) pv := by
    refine ⟨by simp [hl2], fun j k v e => ?_⟩
    obtain ⟨b, key, e1, e2, _⟩ := hpr j k v e
    refine ⟨by simp [e1], .inl ?_⟩
    show s.heap.IsTuple (ps[j]?.getD 0) #[k, v]
    rw [e1]
    exact e2
  refine PySem.call_dict_pairs (knd := mixKind X.prog X.w) (kvs := prs) (PairArg.tuple a (ps.map Value.ref).toArray (fun j => (ps[j]?).getD 0) pv) (I.ok.hd hcalm) ⟨⟨o, n, hg, hc, hdo, hd⟩, hitems⟩ ?_ (by rw [hl2]; exact hz) fun h' tk hd' k => ?_
  · refine ⟨by rw [hl, hl2], fun i key v hr => ?_⟩
    obtain ⟨b, kk, _, _, e3, e4⟩ := hpr i key v hr
    exact ⟨kk, e3, e4⟩
  · have hm : (s.heap.objs.size == sysModules) = false := beq_eq_false_iff_ne.mpr (Nat.ne_of_gt I.big)
    have hlen : (mergeK [] kvs).length ≤ sizeLine := by
      refine Nat.le_trans (length_mergeK kvs []) ?_
      rw [List.length_nil, Nat.zero_add, rel.length, hl]
      exact hz
    exact ⟨.ref s.heap.objs.size, upd H s.heap.objs.size (.dK (mergeK [] kvs)), I.laid (t' := tk) (fun b o e => k b o (by simp) e) (Nat.le_refl _) (show ObjOk X.prog X.w _ _ _ (.dK (mergeK [] kvs)) from ⟨hlen, hm, merged [] prs, KV.merge rel .nil, hd'⟩), rfl, q _ (I.hok.fresh (Nat.le_refl _))⟩
/-- o.f, to which a part is given -/
def gFld (K : PySem.W.Frag) (ta : TE) (f : Str) : TG := fun y σ H Q => ta σ H fun x H2 => ∃ a C dx fs, x = .ref a ∧ H2 a = some (.ins C dx fs) ∧ Cls K C ∧ NoAttr K C f ∧ fs.length < 1000 ∧ Q σ (upd H2 a (.ins C dx (putF f y fs)))
theorem pg_fld {o : Expr} {f : Str} {pos' : Pos} {ta : TE} (ha : PE X o ta) : PG X (.Attribute o f pos') (gFld X.K ta f) := by
  refine ⟨fun pins s σ H v u Q I r h => ?_⟩
  rw [assign_Attribute]
  refine wpAny_bind (wpAny_holding (thn (ha.run pins s σ H _ I h) fun ov s1 ⟨x, H1, I1, r1, a, C, dx, fs, ex, ea, c, n, l, q⟩ => ?_))
  subst ex
  obtain rfl : ov = Value.ref a := r1
  refine wpAny_bind (wpAny_standAt (wpAny_bind (wpAny_holding (setattr_ok I1 ea c n l r fun s2 I2 => ?_))))
  exact wpAny_release ⟨σ, _, I2, q⟩
end
theorem putK_new {kvs : List (Key × V)} {k : Key} {v : V} (h : ∀ q ∈ kvs, q.1 ≠ k) : putK kvs k v = kvs ++ [(k, v)] := by
  unfold putK
  rw [if_neg]
  intro z
  obtain ⟨x, hx, hx2⟩ := List.any_eq_true.mp z
  exact h x hx (of_decide_eq_true hx2)
theorem mergeK_nodup : ∀ {more kvs : List (Key × V)}, ((kvs ++ more).map (·.1)).Nodup → mergeK kvs more = kvs ++ more
  | [], kvs, _ => (List.append_nil kvs).symm
  | p :: more, kvs, h => by
    have e : mergeK kvs (p :: more) = mergeK (putK kvs p.1 p.2) more := rfl
    have hn : ∀ q ∈ kvs, q.1 ≠ p.1 := fun q hq e => by
      rw [List.map_append, List.map_cons] at h
      exact (List.nodup_append.mp h).2.2 q.1 (List.mem_map_of_mem hq) p.1 (List.mem_cons_self ..) e
    rw [e, putK_new hn, mergeK_nodup (by rw [List.append_assoc]; exact h), List.append_assoc]
    rfl
/-- a walk whose body says by itself where it goes on -/
theorem out_it {J : It} {n : Nat} {G : Hp → Prop} {Y : Nat → Hp → V → Hp → Prop} (w : Walk J n G Y) {H0 : Hp} {body : V → Hp → (Hp → Prop) → Prop} {Qd : Hp → Prop} (Pv : Nat → Hp → Prop) (h0 : Pv 0 H0) (hG : ∀ i H, i ≤ n → Pv i H → G H)
    (hs : ∀ i x H H', i < n → Pv i H → Y i H x H' → body x H' (Pv (i + 1))) (hd : ∀ H, Pv n H → Qd H) :
    ∃ W : Nat → Nat → Hp → Prop, (∃ m, W 0 m H0) ∧ ∀ i m H, W i m H → (J.stop i H ∧ Qd H) ∨ (J.go i H ∧ ∃ Nx : Hp → Prop, (∀ H', Nx H' → ∃ m', m' < m ∧ W (i + 1) m' H') ∧ ∀ x H', J.yld i H x H' → body x H' Nx) := by
  refine ⟨fun i m H => m = n - i ∧ i ≤ n ∧ Pv i H, ⟨n, by simp, Nat.zero_le _, h0⟩, ?_⟩
  rintro i m H ⟨rfl, hi, p⟩
  have q := hG i H hi p
  by_cases hlt : i < n
  · refine .inr ⟨w.goes i H hlt q, Pv (i + 1), fun H' p' => ⟨n - (i + 1), by omega, rfl, hlt, p'⟩, fun x H' y => hs i x H H' hlt p (w.yields i H x H' hlt q y)⟩
  · have e : i = n := by omega
    subst e
    exact .inl ⟨w.stops H q, hd H p⟩
/-- {k: v} -/
theorem pe_dict1 {X : Cx} {k v : Expr} {tk tv : TE} {pos : Pos} (hk : PE X k tk) (hv : PE X v tv) : PE X (.Dict [some k] [v] pos) (tDisp [(tk, tv)]) :=
  pe_disp (pps_cons hk hv pps_nil) rfl rfl (by simp) (by simp)
theorem pi_tupK {X : Cx} (K : PySem.W.Frag) {tg l : Expr} {tl : TE} (hl : PE X l tl) (h : X.K = K := by rfl) : PI X tg l (iTup K tl) := by
  subst h
  exact pi_tup hl
end RU

/-! ### repr of data; the promise of a def around which nothing is being shown -/
namespace RP
open PySem PySem.Spec PyProof.Rows L2 HX RZ
/-- data whose text is short: of weight n, depth k at most -/
structure Nice (d : PyData) (n k : Nat) : Prop where
  sh : d.showable = true
  nd : d.hasDict = false
  ls : d.leavesShort 13 = true
  wt : d.weight ≤ n
  dp : d.depth ≤ k
theorem Nice.le {d : PyData} {n k n' k' : Nat} (h : Nice d n k) (a : n ≤ n') (b : k ≤ k') : Nice d n' k' := ⟨h.sh, h.nd, h.ls, Nat.le_trans h.wt a, Nat.le_trans h.dp b⟩
theorem nice_int {i : Int} (h1 : -999999999999 ≤ i) (h2 : i ≤ 999999999999) : Nice (.int i) 40 0 := by
  have hl : i.natAbs.log2 < 40 := by
    by_cases z : i.natAbs = 0
    · rw [z]; decide
    · exact (Nat.log2_lt z).mpr (by omega)
  refine ⟨?_, rfl, ?_, ?_, Nat.le_refl 0⟩
  · show decide (i.natAbs.log2 < 1920) = true
    exact decide_eq_true (by omega)
  · show decide ((PyData.shown (.int i)).length ≤ 13) = true
    exact decide_eq_true (PyData.shown_int_le2 h1 h2)
  · show (if (i == 0) = true then 0 else i.natAbs.log2 + 1) ≤ 40
    split <;> omega
theorem nice_rows {n k : Nat} : ∀ {ds : List PyData}, (∀ d ∈ ds, Nice d n k) → PyData.showableAll ds = true ∧ PyData.hasDictAll ds = false ∧ PyData.leavesShortAll 13 ds = true ∧ PyData.weightAll ds ≤ ds.length * (n + 1) ∧ PyData.depthAll ds ≤ k
  | [], _ => ⟨rfl, rfl, rfl, Nat.zero_le _, Nat.zero_le _⟩
  | d :: ds, h => by
    have a := h d (List.mem_cons_self ..)
    obtain ⟨b1, b2, b3, b4, b5⟩ := nice_rows (n := n) (k := k) (ds := ds) fun x hx => h x (List.mem_cons_of_mem _ hx)
    refine ⟨?_, ?_, ?_, ?_, ?_⟩
    · show (d.showable && PyData.showableAll ds) = true
      rw [a.sh, b1]; rfl
    · show (d.hasDict || PyData.hasDictAll ds) = false
      rw [a.nd, b2]; rfl
    · show (d.leavesShort 13 && PyData.leavesShortAll 13 ds) = true
      rw [a.ls, b3]; rfl
    · show d.weight + 1 + PyData.weightAll ds ≤ (ds.length + 1) * (n + 1)
      have := a.wt
      rw [Nat.succ_mul]
      omega
    · show max d.depth (PyData.depthAll ds) ≤ k
      have := a.dp
      omega
theorem nice_tup {ds : List PyData} {n k m : Nat} (h : ∀ d ∈ ds, Nice d n k) (hm : ds.length * (n + 1) ≤ m) : Nice (.tuple ds) m (k + 1) := by
  obtain ⟨b1, b2, b3, b4, b5⟩ := nice_rows h
  exact ⟨b1, b2, b3, Nat.le_trans b4 hm, Nat.succ_le_succ b5⟩
theorem nice_lst {ds : List PyData} {n k m : Nat} (h : ∀ d ∈ ds, Nice d n k) (hm : ds.length * (n + 1) ≤ m) : Nice (.list ds) m (k + 1) := by
  obtain ⟨b1, b2, b3, b4, b5⟩ := nice_rows h
  exact ⟨b1, b2, b3, Nat.le_trans b4 hm, Nat.succ_le_succ b5⟩
structure NiceAll (ds : List PyData) (n k : Nat) : Prop where
  sh : PyData.showableAll ds = true
  nd : PyData.hasDictAll ds = false
  ls : PyData.leavesShortAll 13 ds = true
  wt : PyData.weightAll ds ≤ n
  dp : PyData.depthAll ds ≤ k
theorem NiceAll.nil {k : Nat} : NiceAll [] 0 k := ⟨rfl, rfl, rfl, Nat.le_refl 0, Nat.zero_le _⟩
theorem NiceAll.cons {d : PyData} {ds : List PyData} {a b k k' : Nat} (h : Nice d a k') (hs : NiceAll ds b k) (hk : k' ≤ k) : NiceAll (d :: ds) (a + 1 + b) k := by
  refine ⟨?_, ?_, ?_, ?_, ?_⟩
  · show (d.showable && PyData.showableAll ds) = true
    rw [h.sh, hs.sh]; rfl
  · show (d.hasDict || PyData.hasDictAll ds) = false
    rw [h.nd, hs.nd]; rfl
  · show (d.leavesShort 13 && PyData.leavesShortAll 13 ds) = true
    rw [h.ls, hs.ls]; rfl
  · show d.weight + 1 + PyData.weightAll ds ≤ a + 1 + b
    have := h.wt
    have := hs.wt
    omega
  · show max d.depth (PyData.depthAll ds) ≤ k
    have := h.dp
    have := hs.dp
    omega
theorem NiceAll.all {ds : List PyData} {n k m : Nat} (h : ∀ d ∈ ds, Nice d n k) (hm : ds.length * (n + 1) ≤ m) : NiceAll ds m k := by
  obtain ⟨b1, b2, b3, b4, b5⟩ := nice_rows h
  exact ⟨b1, b2, b3, Nat.le_trans b4 hm, b5⟩
theorem NiceAll.tup {ds : List PyData} {n k : Nat} (h : NiceAll ds n k) : Nice (.tuple ds) n (k + 1) := ⟨h.sh, h.nd, h.ls, h.wt, Nat.succ_le_succ h.dp⟩
theorem NiceAll.lst {ds : List PyData} {n k : Nat} (h : NiceAll ds n k) : Nice (.list ds) n (k + 1) := ⟨h.sh, h.nd, h.ls, h.wt, Nat.succ_le_succ h.dp⟩
/-- of thirty bits -/
theorem nice_int30 {i : Int} (h1 : -1000000000 ≤ i) (h2 : i ≤ 1000000000) : Nice (.int i) 30 0 := by
  have a := nice_int (i := i) (by omega) (by omega)
  refine ⟨a.sh, a.nd, a.ls, ?_, a.dp⟩
  show (if (i == 0) = true then 0 else i.natAbs.log2 + 1) ≤ 30
  split
  · omega
  · have hl : i.natAbs.log2 < 30 := by
      by_cases z : i.natAbs = 0
      · rw [z]; decide
      · exact (Nat.log2_lt z).mpr (by omega)
    omega
theorem nice_bool (b : Bool) : Nice (.bool b) 0 0 := ⟨rfl, rfl, rfl, Nat.le_refl 0, Nat.le_refl 0⟩
theorem nice_none : Nice .none 0 0 := ⟨rfl, rfl, rfl, Nat.le_refl 0, Nat.le_refl 0⟩
theorem dpAll_of {K : PySem.W.Frag} {H : Hp} {β : Type} {R : V → β → Prop} {f : β → PyData} (h : ∀ x y, R x y → Dp K H x (f y)) : ∀ {xs : List V} {ys : List β}, Paired R xs ys → DpAll K H xs (ys.map f)
  | _, _, .nil => .nil
  | _, _, .cons r rs => .cons (h _ _ r) (dpAll_of h rs)
theorem nice_leaf : Nice (.str "leaf") 4 0 := ⟨rfl, rfl, by decide, by decide, Nat.le_refl 0⟩
theorem nice_node : Nice (.str "node") 4 0 := ⟨rfl, rfl, by decide, by decide, Nat.le_refl 0⟩
/-- repr(x), x data that stands in the heap; nothing is being shown around -/
theorem call_reprD {X : Cx} (hg : X.A.guards = some []) (hu : X.A.units + 64 < cLine) : CallR X (.builtin "repr") (fun xs H Q => ∃ (a : Addr) (d : PyData) (n : Nat), xs = [.ref a] ∧ Dp X.K H (.ref a) d ∧ Nice d n 50 ∧ n ≤ 2 ^ 20 ∧ Q (.str d.shown) H) := by
  intro pins s σ H xs us Q I r h
  obtain ⟨a, d, n, rfl, hd, hn, hl, q⟩ := h
  obtain ⟨u, rfl, rx⟩ := vals1 r
  obtain rfl : u = Value.ref a := rx
  obtain ⟨as, rr⟩ := Dp.reads I d _ _ hd (rfl : RelV (.ref a) (.ref a))
  refine repr_of_reads' rr hn.sh (PyData.noDict_hsm hn.nd) hg (by have := hn.dp; omega) (fun _ _ e => e) (fun h' t tk hk => ⟨.str d.shown, H, I.kept (t' := tk) hk, ⟨t, rfl⟩, q⟩) (PyData.shown_fits (B := 13) (by decide) (by decide) hn.ls (Nat.le_trans hn.wt hl))
/-- as FnOk, where nothing is being shown around -/
structure FnOkG (P : Program) (w : World) (K : PySem.W.Frag) (mg : Str → Option Value) (base : Heap) (CX : CXT) (k : Nat) (f : Addr) (fd : FuncData) (ps : List Str) (sp : Sp) : Prop where
  go : ∀ (Z : Around) (envs : List Env) (c : Shared) (G : Hp) (us : List Value) (vs : List V) (Q : VK) (E : XK) (as : Args), Z.guards = some [] → Room k Z → Env0 P w K mg base Z envs c G → BindsTo c fd as (ps.zip us) → Vals vs us → sp vs G Q E →
    codeAny (model P w) Z (.call (.ref f) as) (CR CX envs P w G c Q E) c
theorem okG {P : Program} {w : World} {K : PySem.W.Frag} {mg : Str → Option Value} {base : Heap} {CX : CXT} {x qual : Str} {pr : Arguments} {bd : List Stmt} {sc : Scope} {dvs : List V} {kws : List (Str × V)} {f : Addr} {fd : FuncData} {N ps : List Str} {k : Nat} {sp : Sp}
    (F : FunD K x qual pr bd sc dvs kws f fd) (S : FnScope N ps sc) (len : ∀ vs H Q E, sp vs H Q E → vs.length = ps.length)
    (hb : ∀ (cdv : Value) (Z : Around) (envs : List Env) (c : Shared) (G : Hp) (vs : List V) (Q : VK) (E : XK), Z.guards = some [] → Room k (Z.deeper (envOfC qual sc c.heap.objs.size f cdv)) → sp vs G Q E →
      ∃ t, PSs (cxOf CX P w K mg base N qual sc f cdv Z envs c G E) bd t ∧ t { nx := fun _ G' => Q .non G', rt := Q } (start N vs) G) : FnOkG P w K mg base CX (k + 1) f fd ps sp := by
  obtain ⟨oc, od, dV, kV, doc, pm, an, cdv, ct, osl, rfl, lk, hcd, _, _⟩ := F.ex
  constructor
  intro Z envs c G us vs Q E as hz hr e0 hbt rel hsp
  have n0 := len _ _ _ _ hsp
  have kp : ∀ b o, base.get? b = some o → c.heap.get? b = some o := fun b o e => (e0.bs b o e).1
  have hK : K.In c.heap := e0.mod.kin.keeps kp
  have nl : c.heap.NoLimit := e0.mod.nolimit.keeps kp
  refine codeAny_call_function hr.depth (hK _ _ lk) rfl S.co S.gen rfl (PySem.W.codeRec_of hK hcd) (hbt _ _ _ _ ?_)
  refine wpAny_newFunctionEnv_cells S.kind ?_ ?_
  · rintro ⟨n, v⟩ hy
    rcases S.par n (List.of_mem_zip hy).1 with q | q
    · exact .inl q
    · exact .inr ⟨q, PySem.W.cellsFrom_some _ _ _ (.inl q)⟩
  intro env he c1 xx
  subst he
  refine ⟨nl.keeps xx.toInCall.keep, codeAny_func ?_⟩
  obtain ⟨t, ht, hq⟩ := hb cdv Z envs c G vs Q E hz (hr.deeper _) hsp
  refine wpAny_mono (ht.run [] c1 (start N vs) G _ (inv_start S hr.hd e0 n0 rel xx) hq) ?_ fun e c' z => z
  intro fl c' z
  match fl, z with
  | .ret u, ⟨v, σ', G', J, rv, q⟩ => exact ⟨v, G', J.os, J.bare, J.base, J.hok, rv, q⟩
  | .next, ⟨σ', G', J, q⟩ => exact ⟨V.non, G', J.os, J.bare, J.base, J.hok, rfl, q⟩
  | .brk, ⟨_, _, _, q⟩ => exact False.elim q
  | .cont, ⟨_, _, _, q⟩ => exact False.elim q
end RP

/-! ### the end of a law for a def around which nothing is being shown -/
namespace RP
open PySem PySem.Spec PyProof.Rows L2 HX RZ
theorem law_goes {P : Program} {w : World} {K : PySem.W.Frag} {mg mb : Str → Option Value} {k : Nat} {fa a : Addr} {fd : FuncData} {x : Str} {sp : Sp} {c : Shared} {us : List Value} {ns : List Int}
    (hK : K.In c.heap) (hm : c.heap.Ns mainGlobals mg) (hb : c.heap.Ns builtinsNs mb) (hbb : ∀ x : Str, x ≠ "__name__" → mb x = bootBuiltins x) (nl : c.heap.NoLimit) (ng : c.gens = #[])
    (ha : c.heap.get? a = some { cls := .type "list", data := .seq us.toArray }) (hi : IntsAre us ns) (hl : ns.length ≤ sizeLine) (hr : Room k callerA)
    (F : ∀ base : Heap, K.In base → base.Ns mainGlobals mg → FnOkG P w K mg base CX0 k fa fd [x] sp) (hbind : ∀ (s : Shared) (u : Value), BindsTo s fd ⟨[u], []⟩ [(x, u)])
    (hsp : ∀ G : Hp, Only G → SqL K G a (ns.map V.int) → sp [.ref a] G (fun v _ => v = .bl true) fun _ _ _ => False) :
    codeAny (model P w) callerA (.call (.ref fa) ⟨[.ref a], []⟩) (fun r c' => r = .ok (.ret (.bool true)) ∧ OldK c.heap c'.heap ∧ c'.os = c.os ∧ AllBare c'.gens) c := by
  have rv := vals_ints hi
  have main : ∀ G : Hp, Only G → SqL K G a (ns.map V.int) → HOk P w G c.heap → (∀ b, G b ≠ none → b = a) → (G a ≠ none → K.lookup a = none) →
      codeAny (model P w) callerA (.call (.ref fa) ⟨[.ref a], []⟩) (fun r c' => r = .ok (.ret (.bool true)) ∧ OldK c.heap c'.heap ∧ c'.os = c.os ∧ AllBare c'.gens) c := by
    intro G hO hS hok only own
    have away : ∀ {b : Addr}, b ≠ a → G b = none := fun {b} n => by
      rcases z : G b with _ | u
      · rfl
      · exact (n (only b (by rw [z]; exact nofun))).elim
    have ns0 : ∀ {b : Addr} {m : Str → Option Value}, c.heap.Ns b m → (hidT c.heap G).Ns b m := by
      rintro b m ⟨o, es, ep, e, d, r⟩
      refine ⟨o, es, ep, hidT_get e (away ?_), d, r⟩
      rintro rfl
      rw [ha] at e
      cases e
      exact nomatch d
    have kin : K.In (hidT c.heap G) := by
      intro b o e
      refine hidT_get (hK b o e) ?_
      rcases z : G b with _ | u
      · rfl
      · have n : G b ≠ none := by rw [z]; exact nofun
        have e' := only b n
        subst e'
        rw [own n] at e
        exact nomatch e
    have hM : Mod K mg (hidT c.heap G) := by
      obtain ⟨mc, q1, q2⟩ := nl
      exact ⟨kin, ns0 hm, ⟨mb, ns0 hb, hbb⟩, ⟨mc, ns0 q1, q2⟩⟩
    have e0 : Env0 P w K mg (hidT c.heap G) callerA [] c G := ⟨rfl, hM, fun b o e => of_hidT e, Nat.le_of_eq (hidT_size _ _), trivial, (fun b q => nomatch q), hok, .of_eq ng⟩
    refine codeAny_mono ((F _ kin (ns0 hm)).go callerA [] c G [.ref a] [.ref a] _ _ _ rfl hr e0 (hbind c (.ref a)) (.cons rfl .nil) (hsp G hO hS)) ?_
    intro r c' z
    match r, z with
    | .error _, z => exact False.elim (by simpa [CR, CX0] using z)
    | .ok (.ret u), ⟨v, G', os, bare, un, hok', r', q⟩ =>
      obtain rfl : v = .bl true := q
      obtain rfl : u = Value.bool true := r'
      refine ⟨rfl, OldK.of_keep ?_, os, bare⟩
      intro b o e
      rcases z : G b with _ | u
      · exact un.keep b o e z nofun nofun
      · rcases hO b with y | ⟨ob, xs, y⟩
        · rw [z] at y
          cases y
        · obtain ⟨e1, _⟩ := hok b _ y
          obtain ⟨e2, _⟩ := hok' b _ (un.frzs b ob _ y)
          rw [e] at e1
          cases e1
          exact e2
  rcases hk : K.lookup a with _ | o
  · refine main (fun b => if b = a then some (.frz { cls := .type "list", data := .seq us.toArray } (.lst (ns.map V.int))) else none) ?_ (.inl (.inr ⟨_, if_pos rfl⟩)) ?_ ?_ fun _ => hk
    · intro b
      by_cases e : b = a
      · exact .inr ⟨_, _, if_pos e⟩
      · exact .inl (if_neg e)
    · intro b u z
      by_cases e : b = a
      · have z' := (if_pos e).symm.trans z
        cases z'
        subst e
        exact ⟨ha, by rw [List.length_map]; exact hl, us, _, rv, ha⟩
      · exact nomatch (if_neg e).symm.trans z
    · intro b z
      by_cases e : b = a
      · exact e
      · exact absurd (if_neg e) z
  · have e := hK a o hk
    rw [ha] at e
    cases e
    have z := hi.length
    refine main (fun _ => none) (fun _ => .inl rfl) (.inr ⟨_, us.toArray, _, hk, rfl, rfl, rfl, ?_, by simpa using rv⟩) (fun b u z => nomatch z) (fun b z => absurd rfl z) fun z => absurd rfl z
    rw [List.size_toArray, z]
    exact hl
theorem walk_ofG {l : PySem.W.OpenLaw} {n k : Nat} {q : Program} {loose : List Str} {XP : (Str → Option Value) → Heap → Prop} {YP : World → Heap → Prop} {d : DefRec} {x : Str}
    (hn : l.most = some n) (hn2 : n ≤ sizeLine) (hdf : d.params.defaults = []) (hr : Room k callerA)
    (F : ∀ (w : World) (mg : Str → Option Value) (fa : Addr) (h : Heap), YP w h → h.Ns mainGlobals mg → mg d.name = some (.ref fa) → ∃ (K : PySem.W.Frag) (fd : FuncData) (sp : Sp), K.In h ∧ (∀ (s : Shared) (u : Value), BindsTo s fd ⟨[u], []⟩ [(x, u)]) ∧
      (∀ (G : Hp) (a : Addr) (ns : List Int), ns.length ≤ n → Only G → SqL K G a (ns.map V.int) → sp [.ref a] G (fun v _ => v = .bl true) fun _ _ _ => False) ∧ ∀ base : Heap, K.In base → base.Ns mainGlobals mg → FnOkG l.prog w K mg base CX0 k fa fd [x] sp) :
    PySem.W.WalkO q loose XP YP l.row.toRowW d [] (fun f vs => PySem.call f vs) := by
  refine Att.attach_call hn hdf ?_
  intro w c0 c mg mb fa o pm cd doc a us ns G Y ho hd hcd hmg hobj hints hlen hg
  obtain ⟨K, fd, sp, KX, hb, hsp, hF⟩ := F w mg fa _ Y G.T.g hmg
  exact law_goes KX G.T.g G.T.b G.T.builtins G.T.nolimit hg hobj hints (Nat.le_trans hlen hn2) hr hF hb (fun H hO hS => hsp H a ns hlen hO hS)
end RP

/-! ### a slice of a tuple, the whole of it too -/
namespace RU
open PySem PySem.Spec PyProof.Rows L2 HX RZ
def rSlU (K : PySem.W.Frag) : V → Option Int → Option Int → Hp → VK → Prop := fun x lo hi H Q => ∃ a xs, x = .ref a ∧ SqT K H a xs ∧ ∀ p H', Same H H' → SqT K H' p (cutV xs lo hi) → Q (.ref p) H'
theorem sl_tupU {X : Cx} : SlR X (rSlU X.K) := by
  intro pins s σ H x v vl vu lo hi sl Q I rx hs pl pu h
  obtain ⟨a, xs, rfl, hx, q⟩ := h
  refine sl_tupA pins s σ H _ v vl vu lo hi sl Q I rx hs pl pu ⟨a, xs, rfl, hx, fun ⟨w1, w2⟩ => q a H (Same.refl H) ?_, fun _ p hp => q p _ (same_new hp) (SqT.of upd_same)⟩
  unfold cutV
  rw [w1, w2, List.drop_zero, Nat.sub_zero, List.take_length]
  exact hx
end RU
/-! ### a tuple of written items, of which one knows that it has no dict -/
namespace RU
open PySem PySem.Spec PyProof.Rows L2 HX RZ
def tTupF (t : TA) : TE := fun σ H Q => t σ H fun xs H1 => xs.length ≤ sizeLine ∧ ∀ (p : Addr) (o : Obj), H1 p = none → o.dict = none → Q (.ref p) (upd H1 p (.frz o (.tup xs)))
theorem pe_tupF {X : Cx} {es : List Expr} {t : TA} {x1 : Nat} {pos : Pos} (h : PA X es t) : PE X (.Tuple es x1 pos) (tTupF t) := by
  refine ⟨fun pins s σ H Q I hq => ?_⟩
  refine wpAny_Tuple_spliced ?_
  refine thn (h.run pos pins s σ H _ I hq) ?_
  rintro us c ⟨xs, G, J, rel, few, go⟩
  refine ⟨by rw [← rel.length]; exact few, ?_⟩
  have free : G c.heap.objs.size = none := J.hok.fresh (Nat.le_refl _)
  have J2 : Inv X pins σ (upd G c.heap.objs.size (.frz { cls := .type "tuple", data := .seq us.toArray } (.tup xs))) { c with heap := c.heap.push { cls := .type "tuple", data := .seq us.toArray } } :=
    J.laid (t' := c.toks) (fun b u e => Heap.get?_push_of_some _ e) (Nat.le_refl _) (show ObjOk X.prog X.w _ _ _ (.frz _ (.tup xs)) from ⟨Heap.get?_push_size _ rfl, few, us, rel, _, Heap.get?_push_size _ rfl, rfl, _, rfl⟩)
  exact ⟨.ref c.heap.objs.size, _, J2, rfl, go _ _ free rfl⟩
end RU
/-! ### a part of a tuple, of which one knows that it has no dict -/
namespace RU
open PySem PySem.Spec PyProof.Rows L2 HX RZ
def rSlF (K : PySem.W.Frag) : V → Option Int → Option Int → Hp → VK → Prop := fun x lo hi H Q => ∃ a xs, x = .ref a ∧ SqT K H a xs ∧
  ¬ (HT.sIx xs.length 0 lo = 0 ∧ HT.sIx xs.length xs.length hi = xs.length) ∧ ∀ (p : Addr) (o : Obj), H p = none → o.dict = none → Q (.ref p) (upd H p (.frz o (.tup (cutV xs lo hi))))
theorem sl_tupF {X : Cx} : SlR X (rSlF X.K) := by
  rintro pins c σ G x v vl vu lo hi sl Q I rx hs pl pu ⟨a, xs, rfl, hx, nw, q⟩
  cases rx
  obtain ⟨its, r, ht, hz⟩ := I.tuple hx
  have e : its.toArray.size = xs.length := by
    rw [List.size_toArray]
    exact r.length.symm
  refine ⟨"tuple", _, PyProof.Rows.slot_tuple_getitem.lookup, ht.typeIs, ?_⟩
  refine HT.getItem_tuple_cut ht hs pl pu (by rw [e]; exact nw) ?_ (by rw [e]; exact hz)
  rw [e]
  have rel := (r.drop (HT.sIx xs.length 0 lo)).take (HT.sIx xs.length xs.length hi - HT.sIx xs.length 0 lo)
  let ob : Obj := { cls := .type "tuple", data := .seq (List.take (HT.sIx xs.length xs.length hi - HT.sIx xs.length 0 lo) (List.drop (HT.sIx xs.length 0 lo) its.toArray.toList)).toArray }
  refine ⟨.ref c.heap.objs.size, upd G c.heap.objs.size (.frz ob (.tup (cutV xs lo hi))), I.laid (t' := c.toks) (o := .frz ob (.tup (cutV xs lo hi))) (fun b u z => Heap.get?_push_of_some _ z) (Nat.le_refl _) ?_, rfl, q _ ob (I.hok.fresh (Nat.le_refl _)) rfl⟩
  exact ⟨Heap.get?_push_size _ rfl, Nat.le_trans (cutV_length xs lo hi) hz, _, rel, IsTup.new _ _⟩
end RU
/-! ### t.index(k), t a tuple of whole numbers -/
namespace RU
open PySem PySem.Spec PyProof.Rows L2 HX RZ
theorem mt_tindexI {X : Cx} : MtR X "tuple.index" (fun x xs H Q => ∃ (p : Addr) (ns : List Int) (k : Int), x = .ref p ∧ xs = [.int k] ∧ SqT X.K H p (ns.map V.int) ∧ k ∈ ns ∧ Q (.int (ns.idxOf k : Nat)) H) := by
  rintro pins c σ G x xs v us Q I rx rs ⟨p, ns, k, rfl, rfl, hq, hk, q⟩
  cases rx
  obtain ⟨u, rfl, t, rfl⟩ := vals1 rs
  obtain ⟨its, r, ⟨ob, ho, hc, n, hd⟩, hz⟩ := I.tuple hq
  obtain ⟨cls, dat, dd, sl⟩ := ob
  dsimp only at hc hd
  subst hc hd
  have hj := List.idxOf_lt_length_of_mem hk
  have sz : its.toArray.size = ns.length := by rw [List.size_toArray, ← r.length, List.length_map]
  have item : ∀ (m : Nat) (hm : m < its.toArray.size), ∃ y t', ns[m]? = some y ∧ its.toArray[m] = Value.int y t' := by
    intro m hm
    have hm2 : m < ns.length := by omega
    obtain ⟨w, hw, t', e⟩ := r.get (i := m) (x := .int ns[m]) (by simp [hm2])
    refine ⟨ns[m], t', List.getElem?_eq_getElem hm2, ?_⟩
    rw [← e]
    simpa using (List.getElem?_eq_some_iff.mp hw).2
  refine call_meets PySem.F.slot_tuple_index ⟨_, ho, rfl⟩ PySem.F.entry_tuple_index (PySem.F.args_tuple_index_2 _ _) (TI.tuple_indexAt p its.toArray n _ _ (.int k t) (eqU (.int k)) (ns.idxOf k) (by omega) ?_ ?_) ⟨ho, ?_, ⟨.int (ns.idxOf k : Nat), G, I.tok _, ⟨_, rfl⟩, q⟩⟩
  · obtain ⟨y, t', h1, h2⟩ := item (ns.idxOf k) (by omega)
    rw [h2]
    have e : ns[ns.idxOf k]? = some k := by
      rw [List.getElem?_eq_getElem hj]
      exact congrArg some (List.getElem_idxOf hj)
    rw [e] at h1
    cases h1
    exact beq_self_eq_true k
  · intro m hm hmj
    obtain ⟨y, t', h1, h2⟩ := item m hm
    rw [h2]
    refine beq_eq_false_iff_ne.mpr fun e => ?_
    subst e
    have z := List.not_of_lt_findIdx (p := (· == y)) (xs := ns) (i := m) hmj
    rw [(List.getElem?_eq_some_iff.mp h1).2] at z
    simp at z
  · intro w hw
    exact mem_eqAt (x := .int k) ⟨t, rfl⟩ rfl r (by rw [List.all_map]; exact List.all_eq_true.mpr fun _ _ => rfl) w (by simpa using hw)
end RU
/-! ### a method of a tuple, of which one knows that it has no dict -/
namespace RU
open PySem PySem.Spec PyProof.Rows L2 HX RZ
def tBMF (r : V → List V → Hp → VK → Prop) (to : TE) (t : TA) : TE := fun σ H Q => to σ H fun x H1 => (∃ (a : Addr) (ob : Obj) (xs : List V), x = .ref a ∧ H1 a = some (.frz ob (.tup xs)) ∧ ob.dict = none) ∧ t σ H1 fun vs H2 => r x vs H2 Q
theorem pe_bmF {X : Cx} {name id : String} {r : V → List V → Hp → VK → Prop} {o e : Expr} {es : List Expr} {apos cpos : Pos} {to : TE} {t : TA} (slot : Slot "tuple" name id) (hty : typeOf (.builtin id) = pure (.type "method_descriptor")) (hm : MtR X id r) (ho : PE X o to) (ha : PA X (e :: es) t)
    (hb : attributeBase o name X.env (eval o X.env) = eval o X.env := by rfl)
    (hf : ((backTo cpos (starEach (e :: es) X.env)).all (fun x => !x.1) && (backToKw cpos (keywordEach [] X.env)).all (fun x => x.1.isSome) && decide ((e :: es).length + ([] : List Keyword).length + (if ([] : List Keyword).isEmpty then 0 else 1) < 30)) = true := by rfl)
    (hl : (apos.endLine == cpos.line) = true := by rfl) (hs : starEach (e :: es) X.env = (false, eval e X.env) :: starEach es X.env := by rfl) (hp : (backTo cpos (starEach es X.env)).any (·.1) = false := by rfl) :
    PE X (.Call (.Attribute o name apos) (e :: es) [] cpos) (tBMF r to t) := by
  refine ⟨fun pins c σ G Q I h => ?_⟩
  refine wpAny_Call_method_late hb hf hl rfl ?_
  refine thn (ho.run pins c σ G _ I h) ?_
  rintro v c1 ⟨x, G1, J, rx, ⟨a, ob, xs, rfl, hx, hd⟩, q⟩
  cases rx
  obtain ⟨hg, _, its, _, tp⟩ := J.hok a _ hx
  refine ⟨"tuple", id, PySem.F.plainAttrs_tuple, slot, hty, tp.typeIs, fun b z => ?_, ?_⟩
  · cases z
    exact ⟨ob, hg, hd⟩
  have run := ha.run cpos pins c1 σ G1 _ J q
  rw [hs] at run ⊢
  refine Calls.callWith_builtin ?_ (Calls.evalArgs_plain ?_)
  · show (false || (backTo cpos (starEach es X.env)).any (·.1)) = false
    rw [hp]
    rfl
  · exact thn run fun us c2 ⟨vs, G2, J2, r2, q2⟩ => hm pins c2 σ G2 (.ref a) vs _ us Q J2 rfl r2 q2
end RU
/-! ### t + u, t not empty: a new tuple, of which one knows that it has no dict, or t itself -/
namespace RU
open PySem PySem.Spec PyProof.Rows L2 HX RZ
def rCatF (K : PySem.W.Frag) : R2 := fun x y H Q => ∃ a b xs ys, x = .ref a ∧ y = .ref b ∧ SqT K H a xs ∧ SqT K H b ys ∧ xs ≠ [] ∧ xs.length + ys.length ≤ sizeLine ∧
  (ys = [] → Q (.ref a) H) ∧ (ys ≠ [] → ∀ (p : Addr) (o : Obj), H p = none → o.dict = none → Q (.ref p) (upd H p (.frz o (.tup (xs ++ ys)))))
theorem op_catF {X : Cx} : OpR X (binaryOp .Add) (rCatF X.K) := by
  intro pins s σ H x y v u Q I rx ry h
  obtain ⟨a, b, xs, ys, rfl, rfl, ha, hb, hx, hz, q1, q2⟩ := h
  cases rx
  cases ry
  obtain ⟨its, r1, p1, _⟩ := I.tuple ha
  obtain ⟨its2, r2, p2, _⟩ := I.tuple hb
  refine HT.cat_tup p1 p2 (fun z => hx (r1.nil_iff.mp z)) (fun z => ⟨.ref a, H, I, rfl, q1 (r2.nil_iff.mp z)⟩) (fun z => ?_) (by rw [← r1.length, ← r2.length]; exact hz)
  let ob : Obj := { cls := .type "tuple", data := .seq (its ++ its2).toArray }
  refine ⟨.ref s.heap.objs.size, upd H s.heap.objs.size (.frz ob (.tup (xs ++ ys))), I.laid (t' := s.toks) (o := .frz ob (.tup (xs ++ ys))) (fun b ob q => Heap.get?_push_of_some _ q) (Nat.le_refl _) ?_, rfl, q2 (fun w => z (r2.nil_iff.mpr w)) _ ob (I.hok.fresh (Nat.le_refl _)) rfl⟩
  exact ⟨Heap.get?_push_size _ rfl, by rw [List.length_append]; exact hz, _, r1.append r2, IsTup.new _ _⟩
/-- a part of a tuple: a new one, told as one likes -/
theorem sl_tupV {X : Cx} : SlR X (fun x lo hi H Q => (∃ a xs, x = .ref a ∧ SqT X.K H a xs ∧ ¬ (HT.sIx xs.length 0 lo = 0 ∧ HT.sIx xs.length xs.length hi = xs.length) ∧ ∀ p, H p = none → Q (.ref p) (upd H p (.tup (cutV xs lo hi)))) ∨ rSlF X.K x lo hi H Q) := by
  rintro pins c σ G x v vl vu lo hi sl Q I rx hs pl pu (h | h)
  · exact sl_tup pins c σ G x v vl vu lo hi sl Q I rx hs pl pu h
  · exact sl_tupF pins c σ G x v vl vu lo hi sl Q I rx hs pl pu h
end RU
/-! ### sums of tuples, told alike whatever part is empty -/
namespace RU
open PySem PySem.Spec PyProof.Rows L2 HX RZ
def rCatG (K : PySem.W.Frag) : R2 := fun x y H Q => ∃ a b xs ys o, x = .ref a ∧ y = .ref b ∧ H a = some (.frz o (.tup xs)) ∧ o.dict = none ∧ SqT K H b ys ∧ xs ≠ [] ∧ xs.length + ys.length ≤ sizeLine ∧
  ∀ (p : Addr) (o : Obj) (H' : Hp), Same H H' → H' p = some (.frz o (.tup (xs ++ ys))) → o.dict = none → Q (.ref p) H'
theorem op_catG {X : Cx} : OpR X (binaryOp .Add) (rCatG X.K) := by
  intro pins s σ H x y v u Q I rx ry h
  obtain ⟨a, b, xs, ys, o, rfl, rfl, ha, ho, hb, hx, hz, q⟩ := h
  refine op_catF pins s σ H _ _ v u Q I rx ry ⟨a, b, xs, ys, rfl, rfl, .inl (.inr ⟨o, ha⟩), hb, hx, hz, fun z => q a o H (Same.refl H) (by rw [z, List.append_nil]; exact ha) ho, fun _ p o2 hp ho2 => q p o2 _ (same_new hp) upd_same ho2⟩
def rCatR (K : PySem.W.Frag) : R2 := fun x y H Q => ∃ a b xs ys, x = .ref a ∧ y = .ref b ∧ SqT K H a xs ∧ H b = some (.tup ys) ∧ ys ≠ [] ∧ xs.length + ys.length ≤ sizeLine ∧
  ∀ (p : Addr) (H' : Hp), Same H H' → H' p = some (.tup (xs ++ ys)) → Q (.ref p) H'
theorem op_catR {X : Cx} : OpR X (binaryOp .Add) (rCatR X.K) := by
  intro pins s σ H x y v u Q I rx ry h
  obtain ⟨a, b, xs, ys, rfl, rfl, ha, hb, hy, hz, q⟩ := h
  refine op_catA pins s σ H _ _ v u Q I rx ry ⟨a, b, xs, ys, rfl, rfl, ha, SqT.of hb, hz, fun z => q b H (Same.refl H) (by rw [z]; exact hb), fun _ z => (hy z).elim, fun _ _ p hp => q p _ (same_new hp) upd_same⟩
def rCatL (K : PySem.W.Frag) : R2 := fun x y H Q => ∃ a b xs ys, x = .ref a ∧ y = .ref b ∧ H a = some (.tup xs) ∧ SqT K H b ys ∧ xs ≠ [] ∧ xs.length + ys.length ≤ sizeLine ∧
  ∀ (p : Addr) (H' : Hp), Same H H' → H' p = some (.tup (xs ++ ys)) → Q (.ref p) H'
theorem op_catL {X : Cx} : OpR X (binaryOp .Add) (rCatL X.K) := by
  intro pins s σ H x y v u Q I rx ry h
  obtain ⟨a, b, xs, ys, rfl, rfl, ha, hb, hx, hz, q⟩ := h
  refine op_catA pins s σ H _ _ v u Q I rx ry ⟨a, b, xs, ys, rfl, rfl, SqT.of ha, hb, hz, fun z => (hx z).elim, fun _ z => q a H (Same.refl H) (by rw [z, List.append_nil]; exact ha), fun _ _ p hp => q p _ (same_new hp) upd_same⟩
end RU
/-! ### == and != of data, the fragment named -/
namespace RU
open PySem PySem.Spec PyProof.Rows L2 HX RZ
theorem eqDK {X : Cx} (K : PySem.W.Frag) (hu : X.A.units + 64 < cLine) (h : X.K = K := by rfl) : OpR X (compareOp .Eq) (rEqD K) := h ▸ op_eqD hu
theorem neDK {X : Cx} (K : PySem.W.Frag) (hu : X.A.units + 64 < cLine) (h : X.K = K := by rfl) : OpR X (compareOp .NotEq) (rNeD K) := h ▸ op_neD hu
end RU

namespace RP
open PySem PySem.Spec PyProof.Rows L2 RZ HX
/-- repr of a truth -/
theorem call_reprBl {X : Cx} : CallR X (.builtin "repr") (fun xs H Q => ∃ b : Bool, xs = [.bl b] ∧ Q (.str (if b then "True" else "False")) H) := by
  intro pins s σ H xs us Q I r h
  obtain ⟨b, rfl, q⟩ := h
  obtain ⟨u, rfl, rx⟩ := vals1 r
  obtain rfl : u = Value.bool b := rx
  exact PySem.P.repr_of_bool ⟨.str (if b then "True" else "False"), H, I.tok _, ⟨_, rfl⟩, q⟩
end RP

/-! ### set(xs) of a list of whole numbers -/
namespace RU
open PySem PySem.Spec PyProof.Rows L2 HX RZ
section
variable {P : Program} {w : World} {A : Around} {E : Value → Shared → Prop} {s : Shared}
/-- the object of a set just made -/
abbrev newSet (w : World) : Obj := { cls := .type "set", dict := none, data := .set #[] 0 (.fresh 0 0 (!w.params.followText "set-order")) }
set_option maxRecDepth 100000 in
set_option maxHeartbeats 3200000 in
theorem set_ints {l : Addr} {its : Array Value} (ks : List Int) {Q : Value → Shared → Prop} (nh : A.handled = none) (il : s.heap.IsList l its) (ii : IntsAre its.toList ks) (few : ks.length + 1 < scanBound)
    (go : ∀ (g : Heap) (tk c : Nat), SetR w g s.heap.objs.size (fun j => decide (j ∈ ks)) c → c ≤ ks.length → (∀ b o, s.heap.get? b = some o → g.get? b = some o) → Q (.ref s.heap.objs.size) { s with heap := g, toks := tk }) :
    wpAny (model P w) A (call (.type "set") [.ref l]) Q E s := by
  have sz : its.size = ks.length := (Array.length_toList (xs := its)).symm.trans (IntsAre.length ii)
  obtain ⟨cm, tm, mro⟩ := F.called_set.mro
  have made := F.called_set.made; have subs := F.called_set.sub
  refine wpAny_call (codeAny_of_tree ?_); show wpAny _ _ (callAny (.type "set") _) _ _ _
  refine wpAny_pure ⟨Code.quiet_builtin _ (by decide +kernel), codeAny_builtin PySem.F.entry_type_call ?_⟩; rw [Around.under_plain (weight_type_call_type "set" [.ref l] []) rfl]
  have f1 := F.called_set.notType; have f2 := F.called_set.canCreate; have f3 := F.typeCall_set_1 (.ref l)
  repeat (any_goals (first | assumption | wp_step))
  refine codeAny_mono (code_set_led1 (.ref l) (E := E) (Q₁ := fun u z => u = .ref s.heap.objs.size ∧ z = { s with heap := s.heap.push (newSet w) }) ⟨rfl, rfl⟩) fun r z hz => ?_
  match r, hz with
  | .error _, hz => exact hz
  | .ok (.ret u), hz =>
    obtain ⟨rfl, rfl⟩ := hz
    have at0 : (s.heap.push (newSet w)).get? s.heap.objs.size = some (newSet w) := Heap.get?_push_size _ rfl
    have isT : Shared.TypeIs { s with heap := s.heap.push (newSet w) } (.ref s.heap.objs.size) "set" := ⟨_, at0, rfl⟩
    have f4 := F.called_set.init.lookup; have f5 := F.called_set.init.bind (.ref s.heap.objs.size)
    repeat (any_goals (first | assumption | wp_step))
    refine codeAny_mono (codeAny_call_builtin (R := wants (fun r z => r = .none ∧ ∃ g tk c, z = { s with heap := g, toks := tk } ∧ SetR w g s.heap.objs.size (fun j => decide (j ∈ ks)) c ∧ c ≤ ks.length ∧
        (∀ b o, s.heap.get? b = some o → g.get? b = some o)) E) F.called_set.init.plain F.entry_set_init (check_set_init_1 isT ?_)) fun r2 z2 hz2 => ?_
    · obtain ⟨⟨oc, od, odat, osl⟩, hg, hc, nn, hd⟩ := il
      simp only at hc hd; subst hc; subst hd
      have hg' : (s.heap.push (newSet w)).get? l = some { cls := .type "list", dict := od, data := .seq its nn, slots := osl } := Heap.get?_push_of_some _ hg
      have u1 := F.sub_list_set; have u2 := F.sub_list_frozenset
      have u3 : (Value.type "list" == Value.type "dict") = false := by decide
      have il1 : (s.heap.push (newSet w)).IsList l its := ⟨_, hg', rfl, nn, rfl⟩
      unfold Builtin.«set.__init__» noKeywords Builtin.Frozenset.updateFrom; generalize hPy : pyIter = Py; wp_walk; subst hPy
      refine wpAny_pyIter_list il1 (wpAny_bind (wpAny_runValue ?_))
      have lt : l < s.heap.objs.size := Heap.lt_size hg
      have nh3 : A.in1.in1.in1.handled = none := by simp [nh]
      have ne : l ≠ (s.heap.push (newSet w)).objs.size := by rw [Heap.size_push]; exact Nat.ne_of_lt (Nat.lt_succ_of_lt lt)
      have nf : s.heap.objs.size ∉ [(s.heap.push (newSet w)).objs.size, l] := by
        rw [Heap.size_push]
        exact fun z => (List.mem_cons.mp z).elim (fun y => Nat.ne_of_lt (Nat.lt_succ_self _) y) fun y => Nat.ne_of_gt lt (List.mem_singleton.mp y)
      have vals : ∀ (i : Nat) (v : Value), its[i]? = some v → ∃ k t, ks[i]? = some k ∧ v = .int k t := fun i v hv => by
        have hi : i < ks.length := by rw [← sz]; exact (Array.getElem?_eq_some_iff.mp hv).1
        obtain ⟨t, e⟩ := IntsAre.int_at ii i v (by rw [Array.getElem?_toList]; exact hv)
        exact ⟨ks[i], t, List.getElem?_eq_getElem hi, by rw [e, List.getD_eq_getElem?_getD, List.getElem?_eq_getElem hi] <;> rfl⟩
      refine set_update_ints ((Walks.list nh3 _ l ne its).toS) s.heap.objs.size nf ks sz few vals (its.size - 0) 0 _ (by omega) (Nat.zero_le _) ⟨⟨_, Heap.get?_push_size _ rfl, rfl, rfl⟩, (il1.push _)⟩ ⟨0, Nat.le_refl 0, setR_new_at (Heap.get?_push_of_some _ at0)⟩ ?_
      rintro ⟨g, g2, d2, tk2, os2⟩ c mv hc2 hS
      obtain rfl : g2 = s.gens := mv.gens; obtain rfl : d2 = s.drawn := mv.drawn; obtain rfl : os2 = s.os := mv.os
      show wpAny _ _ _ _ _ _
      refine wpAny_pure ?_; show wpAny _ _ (ret Value.none) _ _ _
      rw [sz] at hc2
      refine wpAny_pure ⟨rfl, g, tk2, c, rfl, hS, hc2, fun b o e => ?_⟩
      have b0 := Heap.lt_size e
      exact mv.heap b o (by
        rw [Heap.size_push]
        exact fun z => (List.mem_cons.mp z).elim (fun y => Nat.ne_of_lt b0 y) fun y => Nat.ne_of_lt (Nat.lt_succ_of_lt b0) (List.mem_singleton.mp y)) (Heap.get?_push_of_some _ (Heap.get?_push_of_some _ e))
    · match r2, hz2 with
      | .error _, hz2 => exact hz2
      | .ok (.ret u2), hz2 =>
        obtain ⟨rfl, g, tk2, c, rfl, hS, hc2, keep⟩ := hz2
        repeat (any_goals (first | assumption | wp_step))
        exact go _ _ _ hS hc2 keep
end
section
variable {X : Cx}
def rSetL (K : PySem.W.Frag) (w : World) : List V → Hp → VK → Prop := fun xs H Q => ∃ (l : Addr) (ks : List Int), xs = [.ref l] ∧ SqL K H l (ks.map V.int) ∧ ks.length + 1 < scanBound ∧ ∀ (p : Addr) (c : Nat) (H' : Hp), c ≤ ks.length → Same H H' → H p = none → H' p = some (SetO w p (fun j => decide (j ∈ ks)) c) → Q (.ref p) H'
theorem call_setL (hc : X.calm = true) : CallR X (.type "set") (rSetL X.K X.w) := by
  intro pins s σ H xs us Q I r h
  obtain ⟨l, ks, rfl, hq, few, q⟩ := h
  rw [Vals.ref1 r]
  obtain ⟨its, rv, pl, hz⟩ := I.list hq
  refine set_ints ks (I.ok.hd hc) pl.isList (by simpa using ints_of_vals rv) few fun g tk c hS hc2 keep => ?_
  exact ⟨.ref s.heap.objs.size, _, I.laid (t' := tk) keep (Nat.le_refl _) (setO_new hS), rfl, q _ c _ hc2 (same_new (I.hok.fresh (Nat.le_refl _))) (I.hok.fresh (Nat.le_refl _)) upd_same⟩
/-- sorted(set) -/
def rSortSet (w : World) : List V → Hp → VK → Prop := fun vs H Q => ∃ (a : Addr) (S : Int → Bool) (n : Nat), vs = [V.ref a] ∧ H a = some (SetO w a S n) ∧ n < 64 ∧
  ∀ (ns : List Int) (p : Addr) (H' : Hp), ns.Pairwise (· < ·) → (∀ k : Int, k ∈ ns ↔ S k = true) → ns.length = n → Same H H' → H p = none → H' p = some (.lst (ns.map V.int)) → Q (.ref p) H'
theorem cr_sortedSetO (hc : X.calm = true) : CallR X (.builtin "sorted") (rSortSet X.w) := fun pins s σ H vs us Q I r ⟨a, S, n, e, ha, hn, q⟩ =>
  cr_sortedSet hc pins s σ H vs us Q I r ⟨a, S, n, e, ha, hn, fun ns p h1 h2 h3 hp => q ns p _ h1 h2 h3 (same_new hp) hp upd_same⟩
end
end RU
/-! ### t + u, tuples, whatever part is empty -/
namespace RU
open PySem PySem.Spec PyProof.Rows L2 HX RZ
def rCatS (K : PySem.W.Frag) : R2 := fun x y H Q => ∃ a b xs ys, x = .ref a ∧ y = .ref b ∧ SqT K H a xs ∧ SqT K H b ys ∧ xs.length + ys.length ≤ sizeLine ∧ ∀ (p : Addr) (H' : Hp), Same H H' → SqT K H' p (xs ++ ys) → Q (.ref p) H'
theorem op_catS {X : Cx} : OpR X (binaryOp .Add) (rCatS X.K) := by
  intro pins s σ H x y v u Q I rx ry h
  obtain ⟨a, b, xs, ys, rfl, rfl, ha, hb, hz, q⟩ := h
  refine op_catA pins s σ H _ _ v u Q I rx ry ⟨a, b, xs, ys, rfl, rfl, ha, hb, hz, fun z => q b H (Same.refl H) (by rw [z]; exact hb), fun _ z => q a H (Same.refl H) (by rw [z, List.append_nil]; exact ha), fun _ _ p hp => q p _ (same_new hp) (SqT.of upd_same)⟩
end RU
/-! ### new things, the heap behind not written out -/
namespace RU
open PySem PySem.Spec PyProof.Rows L2 HX RZ
def FzT (H : Hp) (a : Addr) (xs : List V) : Prop := ∃ o : Obj, H a = some (.frz o (.tup xs)) ∧ o.dict = none
section
variable {X : Cx} {es : List Expr} {t : TA} {pos : Pos}
def tTupS (t : TA) : TE := fun σ H Q => t σ H fun xs H1 => xs.length ≤ sizeLine ∧ ∀ (p : Addr) (H' : Hp), Same H1 H' → H1 p = none → FzT H' p xs → Q (.ref p) H'
theorem pe_tupS {x1 : Nat} (h : PA X es t) : PE X (.Tuple es x1 pos) (tTupS t) := by
  refine ⟨fun pins s σ H Q I hq => ?_⟩
  refine wpAny_Tuple_spliced ?_
  refine thn (h.run pos pins s σ H _ I hq) ?_
  rintro us c ⟨xs, G, J, rel, few, go⟩
  refine ⟨by rw [← rel.length]; exact few, ?_⟩
  have free : G c.heap.objs.size = none := J.hok.fresh (Nat.le_refl _)
  have J2 : Inv X pins σ (upd G c.heap.objs.size (.frz { cls := .type "tuple", data := .seq us.toArray } (.tup xs))) { c with heap := c.heap.push { cls := .type "tuple", data := .seq us.toArray } } :=
    J.laid (t' := c.toks) (fun b u e => Heap.get?_push_of_some _ e) (Nat.le_refl _) (show ObjOk X.prog X.w _ _ _ (.frz _ (.tup xs)) from ⟨Heap.get?_push_size _ rfl, few, us, rel, _, Heap.get?_push_size _ rfl, rfl, _, rfl⟩)
  exact ⟨.ref c.heap.objs.size, _, J2, rfl, go _ _ (same_new free) free ⟨_, upd_same, rfl⟩⟩
def tLstS (t : TA) : TE := fun σ H Q => t σ H fun xs H1 => xs.length ≤ sizeLine ∧ ∀ (p : Addr) (H' : Hp), Same H1 H' → H1 p = none → H' p = some (.lst xs) → Q (.ref p) H'
theorem pe_lstS (h : PA X es t) : PE X (.List es pos) (tLstS t) := by
  refine ⟨fun pins s σ H Q I hq => ?_⟩
  refine wpAny_List_spliced ?_
  refine thn (h.run pos pins s σ H _ I hq) ?_
  rintro us c ⟨xs, G, J, rel, few, go⟩
  refine ⟨by rw [← rel.length]; exact few, ?_⟩
  have free : G c.heap.objs.size = none := J.hok.fresh (Nat.le_refl _)
  exact ⟨.ref c.heap.objs.size, _, J.lnew (t' := c.toks) rel few, rfl, go _ _ (same_new free) free upd_same⟩
theorem op_catLS : OpR X (binaryOp .Add) (fun x y H Q => ∃ l b xs zs, x = .ref l ∧ y = .ref b ∧ H l = some (.lst xs) ∧ H b = some (.lst zs) ∧ xs.length + zs.length ≤ sizeLine ∧ ∀ (p : Addr) (H' : Hp), Same H H' → H p = none → H' p = some (.lst (xs ++ zs)) → Q (.ref p) H') :=
  fun pins s σ H x y v u Q I rx ry ⟨l, b, xs, zs, h1, h2, h3, h4, h5, q⟩ => op_cat pins s σ H x y v u Q I rx ry ⟨l, b, xs, zs, h1, h2, h3, h4, h5, fun p hp => q p _ (same_new hp) hp upd_same⟩
theorem sl_lstS : SlR X (fun x lo hi H Q => ∃ a xs, x = .ref a ∧ SqL X.K H a xs ∧ ∀ (p : Addr) (H' : Hp), Same H H' → H p = none → H' p = some (.lst (cutV xs lo hi)) → Q (.ref p) H') :=
  fun pins s σ H x v vl vu lo hi sl Q I rx hs pl pu ⟨a, xs, h1, h2, q⟩ => sl_list pins s σ H x v vl vu lo hi sl Q I rx hs pl pu ⟨a, xs, h1, h2, fun p hp => q p _ (same_new hp) hp upd_same⟩
theorem call_tupS : CallR X (.type "tuple") (fun xs H Q => ∃ p ys, xs = [.ref p] ∧ SqL X.K H p ys ∧ ∀ (l : Addr) (H' : Hp), Same H H' → H l = none → FzT H' l ys → Q (.ref l) H') :=
  fun pins s σ H xs us Q I r ⟨p, ys, h1, h2, q⟩ => call_tupF pins s σ H xs us Q I r ⟨p, ys, h1, h2, fun l o hl ho => q l _ (same_new hl) hl ⟨o, upd_same, ho⟩⟩
theorem call_lstS : CallR X (.type "list") (fun xs H Q => ∃ p ys, xs = [.ref p] ∧ (SqL X.K H p ys ∨ SqT X.K H p ys) ∧ ∀ (l : Addr) (H' : Hp), Same H H' → H l = none → H' l = some (.lst ys) → Q (.ref l) H') :=
  fun pins s σ H xs us Q I r ⟨p, ys, h1, h2, q⟩ => call_list_of pins s σ H xs us Q I r ⟨p, ys, h1, h2, fun l hl => q l _ (same_new hl) hl upd_same⟩
theorem call_dictS (hcalm : X.calm = true) : CallR X (.type "dict") (fun xs H Q => ∃ (a : Addr) (o : Obj) (ps : List Addr) (kvs : List (Key × V)), xs = [.ref a] ∧ H a = some (.frz o (.tup (ps.map V.ref))) ∧ o.dict = none ∧ Paired (fun p kv => SqT X.K H p [kV kv.1, kv.2]) ps kvs ∧
    ∀ (p : Addr) (H' : Hp), Same H H' → H p = none → H' p = some (.dK (mergeK [] kvs)) → Q (.ref p) H') :=
  fun pins s σ H xs us Q I r ⟨a, o, ps, kvs, h1, h2, h3, h4, q⟩ => call_dictT hcalm pins s σ H xs us Q I r ⟨a, o, ps, kvs, h1, h2, h3, h4, fun p hp => q p _ (same_new hp) hp upd_same⟩
end
end RU

/-! ### a call of a def that wants to know that nothing is being shown -/
namespace RP
open PySem PySem.Spec PyProof.Rows L2 HX RZ
section
variable {X : Cx} {CX : CXT} {k : Nat} {f : Addr} {fd : FuncData} {ps : List Str} {sp : Sp} {dvs : List V} {ds : List Value} {E : XK} {x : Str} {e : Expr} {es : List Expr} {t : TA} {p pos : Pos}
theorem pe_callG (F : FnOkG X.prog X.w X.K X.mg X.base CX k f fd ps sp) (len : ∀ vs H Q E, sp vs H Q E → vs.length = ps.length) (gd : X.A.guards = some []) (hr : Room k X.A) (hg : Gl X x) (hm : X.mg x = some (.ref f)) (hk : PySem.W.keepIn X.K (.ref f) = true) (hb : Binds X.K fd ps ds) (hd : Vals dvs ds) (hx : Passes CX X E)
    (ha : PA X (e :: es) t) (hdb : (x == ("__debug__" : Str)) = false := by decide) (he : starEach (e :: es) X.env = (false, eval e X.env) :: starEach es X.env := by rfl) (hpl : (backTo pos (starEach es X.env)).any (·.1) = false := by rfl) :
    PE X (.Call (.Name x p) (e :: es) [] pos) (tCall sp dvs E t) := by
  refine ⟨fun pins s σ H Q I h => wpAny_Call_Name_kw (ld_glob I hg hm ?_ hdb)⟩
  refine PySem.W.callWith_K (h₀ := X.base) I.ok.mod.kin hk (thn (ha.run pos pins s σ H _ I h) fun us c ⟨vs, G, J, r, q⟩ => ⟨J.kIn, ?_⟩) he hpl
  have rr : Vals (vs ++ dvs) (us ++ ds) := r.append hd
  have hl : (us ++ ds).length = ps.length := by rw [← rr.length]; exact len _ _ _ _ q
  refine wpAny_call (codeAny_mono (F.go X.A X.stack c G (us ++ ds) (vs ++ dvs) Q E ⟨us, []⟩ gd hr J.env0 (hb c us J.kIn hl) rr q) fun r c' z => ?_)
  match r, z with
  | .error e, z => exact hx pins σ G c e c' J z
  | .ok (.ret u), z => exact J.after z
theorem kw_only {n : Nat} {ks : List Str} {kws : List Keyword} {tk : TA} {g : List Value → List Value → List Value} {gV : List V → List V → List V} (F : FnOk X.prog X.w X.K X.mg X.base CX k f fd ps sp) (hr : Room k X.A) (hg : Gl X x) (hm : X.mg x = some (.ref f)) (hk : PySem.W.keepIn X.K (.ref f) = true) (hb : KBn X.K fd ps n ks g gV) (hx : Passes CX X E)
    (hkw : PK X kws tk) (hall : (backToKw pos (keywordEach kws X.env)).all (·.1.isSome) = true := by rfl) (hks : (backToKw pos (keywordEach kws X.env)).filterMap (·.1) = ks := by rfl) (hdb : (x == ("__debug__" : Str)) = false := by decide)
    (hpl : ((backTo pos (starEach [] X.env)).any (·.1) || (backToKw pos (keywordEach kws X.env)).any (·.1.isNone)) = false := by rfl) :
    PE X (.Call (.Name x p) [] kws pos) (tCallN n ks.length sp gV E tNil tk) := by
  refine ⟨fun pins s σ H Q I h => wpAny_Call_Name_kw (ld_glob I hg hm ?_ hdb)⟩
  refine PySem.W.callWith_KW0 (h₀ := X.base) I.ok.mod.kin hk hall ?_ hpl
  refine thn (hkw.run pos pins s σ H _ I h) fun ws c ⟨zs, G, J, rz, l1, l2, q⟩ => ⟨J.kIn, ?_⟩
  rw [hks]
  exact run_fnN (us := []) F hr hb hx J .nil rz l1 l2 q
end
theorem pi_lstK {X : Cx} (K : PySem.W.Frag) {tg l : Expr} {tl : TE} (hl : PE X l tl) (h : X.K = K := by rfl) : PI X tg l (iList K tl) := by
  subst h
  exact pi_list hl
/-- a walk over one thing or another -/
theorem pi_or {X : Cx} {tg l : Expr} {t1 t2 : TI} (h1 : PI X tg l t1) (h2 : PI X tg l t2) : PI X tg l (fun σ H R => t1 σ H R ∨ t2 σ H R) :=
  ⟨fun pins s σ H R I h => h.elim (h1.run pins s σ H R I) (h2.run pins s σ H R I)⟩
theorem pi_seq {X : Cx} {tg l : Expr} {tl : TE} (hl : PE X l tl) : PI X tg l (fun σ H R => iList X.K tl σ H R ∨ iTup X.K tl σ H R) := pi_or (pi_list hl) (pi_tup hl)
end RP

/-! ### sorted(d.items()), d a dict with whole numbers as keys and any values -/
namespace HS
open PySem PySem.Spec PyProof.Rows L2
section
variable {X : Cx}
abbrev entV (e : Int × V) : L2.Key × V := (Sum.inl e.1, e.2)
def rSortItV : List V → Hp → VK → Prop := fun vs H Q => ∃ (p a : Addr) (ks : List (Int × V)), vs = [.ref p] ∧ H p = some (DX.itemsO p a) ∧ H a = some (.dK (ks.map entV)) ∧
  ∀ (H' : Hp) (l : Addr) (ps : List (Addr × Int × V)), (∀ b o, H b = some o → H' b = some o) → H l = none → (ps.map (·.2)).Perm ks → (ps.map (·.2)).Pairwise (fun e f => e.1 < f.1) → H' l = some (.lst (ps.map fun z => V.ref z.1)) →
    (∀ z ∈ ps, H' z.1 = some (.tup [.int z.2.1, z.2.2])) → Q (.ref l) H'
theorem kv_atV : ∀ {ks : List (Int × V)} {vs : List (L2.Key × Value)}, KV (ks.map entV) vs → ∀ (j : Nat) (kv : L2.Key × Value), vs[j]? = some kv → ∃ e, ks[j]? = some e ∧ kv.1 = Sum.inl e.1 ∧ RelV e.2 kv.2
  | [], _, h, j, kv, q => by
    cases h
    simp at q
  | e :: ks, _, h, j, kv, q => by
    cases h with
    | cons r rs =>
      cases j with
      | zero =>
        have q' := Option.some.inj q
        obtain ⟨r1, r2⟩ := r
        exact ⟨e, rfl, by rw [← q']; exact r1.symm, by rw [← q']; exact r2⟩
      | succ j => exact kv_atV (ks := ks) rs j kv q
theorem cr_sortedItV (hc : X.calm = true) : CallR X (.builtin "sorted") rSortItV := by
  intro pins s σ H xs us Q I r h
  obtain ⟨p, a, ks, rfl, hp, ha, q⟩ := h
  obtain rfl := Vals.ref1 r
  have view : s.heap.IsItemsView p a := (show ObjOk X.prog X.w H s.heap p (DX.itemsO p a) from I.hok p _ hp).1
  obtain ⟨z, hd, vs', rel, o, es, ep, ho, hx, hdat, hko, hpairs, hnd⟩ := dk_of I.hok ha
  have l1 : (ks.map entV).length = vs'.length := Paired.length rel
  rw [List.length_map] at l1
  have l2 : es.size = vs'.length := by
    rw [← Pairs.length hpairs, Array.length_toList]
  rw [List.length_map] at z
  have hh : X.A.handled = none := I.ok.hd hc
  refine DT.sortedI (es := es) (ep := ep) hh view ⟨o, ho, hx, hdat⟩ (by omega) fun h' tk as hk hlt hl hG => ?_
  have lak : as.length = ks.length := by omega
  have nd : as.Nodup := List.Pairwise.imp (fun h => Nat.ne_of_lt h) hG.rise
  have pr : ∀ (j : Nat) (b : Addr), as[j]? = some b → ∃ (e : Int × V) (t : Tok) (v : Value), ks[j]? = some e ∧ RelV e.2 v ∧ h'.get? b = some { cls := .type "tuple", data := .seq #[Value.int e.1 t, v] } := by
    intro j b hj
    obtain ⟨en, he, hg⟩ := hG.pairs j b hj
    obtain ⟨kv, h1, h2, h3⟩ := pairs_at hpairs j en (by rw [Array.getElem?_toList]; exact he)
    obtain ⟨e, h4, h5, h6⟩ := kv_atV rel j kv h1
    rcases keyIs_shape h2 with ⟨i, t, e1, e2⟩ | ⟨i, t, e1, e2⟩
    · rw [h5] at e1
      cases e1
      rw [e2, h3] at hg
      exact ⟨e, t, kv.2, h4, h6, hg⟩
    · rw [h5] at e1
      cases e1
  have knd : (ks.map (·.1)).Nodup := by
    have e : vs'.map (·.1) = ks.map fun e => (Sum.inl e.1 : L2.Key) := by
      refine List.ext_getElem? fun j => ?_
      rw [List.getElem?_map, List.getElem?_map]
      cases hv : vs'[j]? with
      | none =>
        have : ks[j]? = none := List.getElem?_eq_none (by rw [l1]; exact List.getElem?_eq_none_iff.mp hv)
        rw [this]
        rfl
      | some kv =>
        obtain ⟨e, h4, h5, _⟩ := kv_atV rel j kv hv
        rw [h4]
        show some kv.1 = some _
        rw [h5]
    rw [e] at hnd
    exact List.pairwise_map.mpr (List.Pairwise.imp (fun {x y} h z => h (congrArg Sum.inl z)) (List.pairwise_map.mp hnd))
  have hob : (h'.push { cls := .type "list", data := .seq (as.map Value.ref).toArray }).get? h'.objs.size = some (seqObj "list" (as.map Value.ref).toArray 0) := Heap.get?_push_size _ rfl
  have kb : ∀ b o, s.heap.get? b = some o → (h'.push { cls := .type "list", data := .seq (as.map Value.ref).toArray }).get? b = some o := fun b o e => Heap.get?_push_of_some _ (hk b o e)
  have ne0 : ∀ b o, h'.get? b = some o → b ≠ h'.objs.size := fun b o e => Nat.ne_of_lt (Heap.lt_size e)
  generalize hh2 : h'.push { cls := .type "list", data := .seq (as.map Value.ref).toArray } = h2 at hob kb ⊢
  have ka : ∀ b o, h'.get? b = some o → h2.get? b = some o := fun b o e => by rw [← hh2]; exact Heap.get?_push_of_some _ e
  have at_ : ∀ v ∈ as.map Value.ref, ∃ (j : Nat) (b : Addr) (e : Int × V) (t : Tok) (u : Value), v = .ref b ∧ as[j]? = some b ∧ ks[j]? = some e ∧ h'.get? b = some { cls := .type "tuple", data := .seq #[Value.int e.1 t, u] } := by
    intro v hv'
    obtain ⟨b, hb, rfl⟩ := List.mem_map.mp hv'
    obtain ⟨j, hj⟩ := List.mem_iff_getElem?.mp hb
    obtain ⟨e, t, u, he, _, hg⟩ := pr j b hj
    exact ⟨j, b, e, t, u, rfl, hj, he, hg⟩
  have kf : ∀ (b : Addr) (e : Int × V) (t : Tok) (u : Value), h'.get? b = some { cls := .type "tuple", data := .seq #[Value.int e.1 t, u] } → kfI h' (.ref b) = e.1 := fun b e t u hg => kfI_of hg rfl
  have ent : ∀ v ∈ as.map Value.ref, IsEnt h2 v (kfI h' v) := by
    intro v hv
    obtain ⟨j, b, e, t, u, rfl, _, _, hg⟩ := at_ v hv
    exact ⟨b, _, t, u, 0, rfl, ka _ _ hg, rfl, by rw [kf b e t u hg]⟩
  have inj : ∀ v ∈ as.map Value.ref, ∀ u ∈ as.map Value.ref, kfI h' v = kfI h' u → v = u := by
    intro v hv u hu hvu
    obtain ⟨j, b, e, t, x1, rfl, j1, j2, hg⟩ := at_ v hv
    obtain ⟨i, c, f, t', x2, rfl, i1, i2, hg'⟩ := at_ u hu
    rw [kf b e t _ hg, kf c f t' _ hg'] at hvu
    have ej : (ks.map (·.1))[j]? = some e.1 := by rw [List.getElem?_map, j2]; rfl
    have ei : (ks.map (·.1))[i]? = some e.1 := by rw [List.getElem?_map, i2, hvu]; rfl
    have eij : j = i := (List.getElem?_inj (List.getElem?_eq_some_iff.mp ej).1 knd).mp (ej.trans ei.symm)
    subst eij
    rw [i1] at j1
    cases j1
    rfl
  refine wpAny_call_entry PyProof.Rows.slot_list_sort ⟨_, hob, rfl⟩ PyProof.Rows.entry_list_sort
    (SrtO.list_sort_ord (s := { s with heap := h2, toks := tk }) (swo_int (kfI h')) hob (by rw [List.length_map]; omega) (fun h2' => ents_sortable (s := { s with heap := h2, toks := tk }) (by omega) ent inj fun o e => ?_) fun out o1 o2 => ⟨.none, rfl, ?_⟩) (PyProof.Rows.args_list_sort _)
  · have e' : some o = some (seqObj "list" (as.map Value.ref).toArray 0) := e.symm.trans hob
    cases e'
    intro c
    exact absurd (Value.type.inj c) (by decide)
  · show EP X pins σ Q (.ref h'.objs.size) { s with heap := sortedHeap h2 h'.objs.size (as.map Value.ref) out.toArray, toks := tk }
    obtain ⟨zs, pz, ez⟩ := perm_lift (fun z : Addr × Int × V => Value.ref z.1) o2.perm (as.zip ks) (by
      rw [show (fun z : Addr × Int × V => Value.ref z.1) = Value.ref ∘ Prod.fst from rfl, ← List.map_map, List.map_fst_zip (by omega)])
    have idx : ∀ z ∈ zs, ∃ j : Nat, as[j]? = some z.1 ∧ ks[j]? = some z.2 := by
      intro z' hz'
      obtain ⟨j, hj⟩ := List.mem_iff_getElem?.mp (pz.mem_iff.mp hz')
      exact ⟨j, List.getElem?_zip_eq_some.mp hj⟩
    have hperm : (zs.map (·.2)).Perm ks := by
      have e := pz.map (·.2)
      have m2 : (as.zip ks).map (·.2) = ks := List.map_snd_zip (by rw [lak]; exact Nat.le_refl _)
      rw [m2] at e
      exact e
    have kz : ∀ z ∈ zs, kfI h' (.ref z.1) = z.2.1 := fun z hz => by
      obtain ⟨j, j1, j2⟩ := idx z hz
      obtain ⟨e, t, u, he, _, hg⟩ := pr j _ j1
      rw [kf _ e t u hg]
      rw [he] at j2
      cases j2
      rfl
    have hsort : (zs.map (·.2)).Pairwise (fun e f => e.1 < f.1) := by
      have le : (zs.map (·.2)).Pairwise (fun e f => e.1 ≤ f.1) := by
        have o1' : out.Pairwise (fun v u => decide (kfI h' u < kfI h' v) = false) := o1
        rw [← ez, List.pairwise_map] at o1'
        rw [List.pairwise_map]
        refine List.Pairwise.imp_of_mem (fun {x y} hx hy h => ?_) o1'
        have h2 := of_decide_eq_false h
        rw [kz x hx, kz y hy] at h2
        omega
      have ne : (zs.map (·.2)).Pairwise (fun e f => e.1 ≠ f.1) := by
        have n1 : ((zs.map (·.2)).map (·.1)).Nodup := (hperm.map (·.1)).nodup_iff.mpr knd
        exact List.pairwise_map.mp n1
      exact List.Pairwise.imp (fun {x y} h => by have := h.1; have := h.2; omega) (List.Pairwise.and le ne)
    have kF : ∀ b o, b ≠ h'.objs.size → h2.get? b = some o → (sortedHeap h2 h'.objs.size (as.map Value.ref) out.toArray).get? b = some o := fun b o hb e => (PyProof.Rows.sortedHeap_old hb (Heap.lt_size e)).trans e
    have kS : ∀ b o, s.heap.get? b = some o → (sortedHeap h2 h'.objs.size (as.map Value.ref) out.toArray).get? b = some o := fun b o e => kF b o (ne0 _ _ (hk b o e)) (kb b o e)
    obtain ⟨eF, heF⟩ := PyProof.Rows.sortedHeap_at (vs := as.map Value.ref) (out := out.toArray) hob
    have I1 : Inv X pins σ H { s with heap := sortedHeap h2 h'.objs.size (as.map Value.ref) out.toArray, toks := tk } := I.kept (t' := tk) kS
    have hn0 : H h'.objs.size = none := I.hok.fresh (Nat.le_of_lt hlt)
    have hlen : (zs.map fun z => V.ref z.1).length ≤ sizeLine := by
      have e := hperm.length_eq
      rw [List.length_map] at e
      rw [List.length_map]
      omega
    have rv : Vals (zs.map fun z => V.ref z.1) out := by
      rw [← ez]
      exact vals_maps (fun z : Addr × Int × V => V.ref z.1) (fun z => Value.ref z.1) zs fun _ _ => rfl
    have I2 : Inv X pins σ (upd H h'.objs.size (.lst (zs.map fun z => V.ref z.1))) { s with heap := sortedHeap h2 h'.objs.size (as.map Value.ref) out.toArray, toks := tk } :=
      I1.take (h' := sortedHeap h2 h'.objs.size (as.map Value.ref) out.toArray) (t' := tk) (fun b ob _ e => e) (I.fpOk (Nat.le_of_lt hlt) hn0) ⟨hlen, out, eF, rv, heF⟩
    obtain ⟨H2, I3, g, qt⟩ := DX.takeT (P := fun b vs => ∃ (j : Nat) (e : Int × V), as[j]? = some b ∧ ks[j]? = some e ∧ vs = [.int e.1, e.2]) I as _ I2 nd fun b hb => by
      obtain ⟨j, hj⟩ := List.mem_iff_getElem?.mp hb
      obtain ⟨e, t, u, he, hrel, hg⟩ := pr j b hj
      have hbl : s.heap.objs.size ≤ b := Nat.le_of_lt (hG.above b hb)
      refine ⟨hbl, ?_, [.int e.1, e.2], ⟨j, e, hj, he, rfl⟩, fun H3 => ⟨(by rw [sizeLine_eq]; show 2 ≤ 16777216; omega), [Value.int e.1 t, u], .cons ⟨t, rfl⟩ (.cons hrel .nil), ⟨_, kF _ _ (ne0 _ _ hg) (ka _ _ hg), rfl, 0, rfl⟩⟩⟩
      rw [upd_ne (ne0 _ _ hg)]
      exact I.hok.fresh hbl
    have gr : ∀ b o, H b = some o → H2 b = some o := fun b o e => g b o (by rw [upd_ne (ne_of_none e hn0)]; exact e)
    refine ⟨.ref h'.objs.size, H2, I3, rfl, q H2 h'.objs.size zs gr hn0 hperm hsort (g _ _ upd_same) fun z' hz' => ?_⟩
    obtain ⟨i, i1, i2⟩ := idx z' hz'
    obtain ⟨vs, ⟨j, e, j1, j2, ev⟩, hH⟩ := qt z'.1 (List.mem_of_getElem? i1)
    have eij : i = j := (List.getElem?_inj (List.getElem?_eq_some_iff.mp i1).1 nd).mp (i1.trans j1.symm)
    subst eij
    have ee : e = z'.2 := Option.some.inj (j2.symm.trans i2)
    rw [ev, ee] at hH
    exact hH
end
end HS

/-! ### x == a text, x any thing that is tracked, a dict too -/
namespace EQT
open PySem PySem.Spec PyProof.Rows L2 PySem.SeqAt
theorem str_eq_declines_any (b : Str) (u : Tok) (l : Addr) (o : Obj) (hc : o.cls = .type "dict") (es : Array DictEntry) (n : Nat) (hd : o.data = .dict es n) :
    Meets (Builtin.«str.__eq__» ⟨[.str b u, .ref l], []⟩) (fun _ R s => s.heap.get? l = some o ∧ R (.ok (.ret .notImplemented)) s) := by
  obtain ⟨cls, dd, data, sl⟩ := o
  simp only at hc hd
  subst hc hd
  exact .of_wp fun prog w A R s h => by obtain ⟨hp, g, d, tk, os⟩ := s; obtain ⟨hl, h⟩ := h; wp_walk using wpAny_loadPart' hl, wpAny_load hl; exact ⟨_, rfl, h⟩
section
variable {A : Around} {s : Shared}
theorem dict_declines {prog : Program} {w : World} {E : Value → Shared → Prop} {l : Addr} (b : Str) (u : Tok) (hl : s.TypeIs (.ref l) "dict") (F1 : Slot "dict" (cmpInfo .Eq).2.1 "dict.__eq__" ∨ True) {Q : Value → Shared → Prop} (hq : Q .notImplemented s) : wpAny (model prog w) A (call (.builtin "dict.__eq__") [.ref l, .str b u]) Q E s := by
  refine wpAny_call_entry F.slot_dict_eq hl F.entry_dict_eq ?_ (F.args_dict_eq_2 _ _)
  show wpAny _ _ (Builtin.Dict.dictSlotArgs "__eq__" ⟨[.ref l, .str b u], []⟩ >>= _) _ _ s
  refine wpAny_bind ?_
  unfold Builtin.Dict.dictSlotArgs
  refine wpAny_bind (wpAny_notOrdered_dict hl ?_)
  show wpAny _ _ (pure (Value.ref l, Value.str b u)) _ _ s
  refine wpAny_pure ?_
  refine wpAny_bind (wpAny_isInstance (T := "str") (U := "dict") (typeIs_str s b u) F.sub_str_dict ?_)
  simp only [Bool.not_false, if_true]
  exact wpAny_bind (wpAny_rule (wpAny_pure ⟨_, rfl, hq⟩))
theorem RcAt.dict_str {l : Addr} (b : Str) (u : Tok) (hlo : ∃ o es n, s.heap.get? l = some o ∧ o.cls = .type "dict" ∧ o.data = .dict es n) (hu : A.units < cLine) : RcAt A s (.ref l) (.str b u) false := fun prog w E Q h => by
  obtain ⟨o, es, n, ho, hc, hd⟩ := id hlo
  have hl : s.TypeIs (.ref l) "dict" := ⟨o, ho, hc⟩
  exact rc_eq_decline_or (k := false) hl (typeIs_str s b u) (by decide) F.sub_str_dict F.slot_dict_eq F.slot_str_eq_refl
    (fun _ hq => dict_declines b u hl (.inr trivial) hq)
    (fun _ hq => call_meets F.slot_str_eq_refl (typeIs_str s b u) F.entry_str_eq (F.args_str_eq_2 _ _) (str_eq_declines_any b u l o hc es n hd) ⟨ho, hq⟩)
    (fun _ hq => wpAny_of_eq (rfl : isSame (.ref l) (.str b u) = pure false) hq) (.inr hu) h
theorem RcAt.str_dict {l : Addr} (b : Str) (u : Tok) (hlo : ∃ o es n, s.heap.get? l = some o ∧ o.cls = .type "dict" ∧ o.data = .dict es n) (hu : A.units < cLine) : RcAt A s (.str b u) (.ref l) false := fun prog w E Q h => by
  obtain ⟨o, es, n, ho, hc, hd⟩ := id hlo
  have hl : s.TypeIs (.ref l) "dict" := ⟨o, ho, hc⟩
  exact rc_eq_decline_or (k := false) (typeIs_str s b u) hl (by decide) F.sub_dict_str F.slot_str_eq F.slot_dict_eq_refl
    (fun _ hq => call_meets F.slot_str_eq (typeIs_str s b u) F.entry_str_eq (F.args_str_eq_2 _ _) (str_eq_declines_any b u l o hc es n hd) ⟨ho, hq⟩)
    (fun _ hq => dict_declines b u hl (.inr trivial) hq)
    (fun _ hq => wpAny_of_eq (rfl : isSame (.str b u) (.ref l) = pure false) hq) (.inr hu) h
theorem EqAt.str_dict {l : Addr} (b : Str) (u : Tok) (hlo : ∃ o es n, s.heap.get? l = some o ∧ o.cls = .type "dict" ∧ o.data = .dict es n) (hu : A.units < cLine) : EqAt A s (.str b u) (.ref l) false := fun prog w E Q h => by
  unfold eqBool
  refine wpAny_holding ?_
  refine wpAny_ite_split (fun hab => absurd (eq_of_beq hab) nofun) (fun _ => ?_)
  exact wpAny_bind (RcAt.str_dict b u hlo hu prog w E _ (wpAny_truthy_bool h))
end
/-- any thing that is tracked: none, a number, a truth, a text, a list, a tuple, a dict -/
def Thg (K : PySem.W.Frag) (H : Hp) (x : V) : Prop := (∃ a xs, x = .ref a ∧ SqL K H a xs) ∨ (∃ a xs, x = .ref a ∧ SqT K H a xs) ∨ (∃ a kvs, x = .ref a ∧ H a = some (.dK kvs)) ∨ scal x (.str Str.empty) = true
/-- it is this text -/
def isStr : V → Str → Bool
  | .str t, z => decide (t = z)
  | _, _ => false
section
variable {X : Cx}
theorem dict_at {pins : List (Addr × Obj)} {σ : L2.St} {H : Hp} {s : Shared} (I : Inv X pins σ H s) {a : Addr} {kvs : List (Key × V)} (h : H a = some (.dK kvs)) : ∃ o es n, s.heap.get? a = some o ∧ o.cls = .type "dict" ∧ o.data = .dict es n := by
  obtain ⟨_, ya, va, ra, da⟩ := (show ObjOk X.prog X.w H s.heap a (.dK kvs) from I.hok a _ h)
  obtain ⟨o, es, ep, h1, h2, h3, _⟩ := da
  exact ⟨o, es, ep, h1, h2.1, h3⟩
def rEqS (K : PySem.W.Frag) : R2 := fun x y H Q => ∃ z, y = .str z ∧ Thg K H x ∧ Q (.bl (isStr x z)) H
theorem op_eqS (hu : X.A.units < cLine) : OpR X (compareOp .Eq) (rEqS X.K) := by
  intro pins s σ H x y v u Q I rx ry h
  obtain ⟨z, rfl, ht, q⟩ := h
  obtain ⟨tu, rfl⟩ := ry
  rcases ht with ⟨a, xs, rfl, ha⟩ | ⟨a, xs, rfl, ha⟩ | ⟨a, kvs, rfl, ha⟩ | hs
  · cases (show v = Value.ref a from rx)
    obtain ⟨us, r1, p1, _⟩ := I.list ha
    exact SeqAt.RcAt.list_str z tu p1.isList hu _ _ _ _ ⟨.bl _, H, I, rfl, q⟩
  · cases (show v = Value.ref a from rx)
    obtain ⟨us, r1, p1, _⟩ := I.tuple ha
    exact SeqAt.RcAt.tuple_str z tu p1 hu _ _ _ _ ⟨.bl _, H, I, rfl, q⟩
  · cases (show v = Value.ref a from rx)
    exact RcAt.dict_str z tu (dict_at I ha) hu _ _ _ _ ⟨.bl _, H, I, rfl, q⟩
  · have e : scal x (.str z) = true ∧ isStr x z = decide (x = .str z) := by
      cases x with
      | str t => exact ⟨rfl, decide_eq_decide.mpr ⟨fun h => by rw [h], fun h => by injection h⟩⟩
      | non => exact ⟨rfl, rfl⟩
      | int i => exact ⟨rfl, (decide_eq_false nofun).symm⟩
      | bl b => exact ⟨rfl, (decide_eq_false nofun).symm⟩
      | _ => exact absurd hs (by simp [scal])
    rw [e.2] at q
    exact op_eq pins s σ H x (.str z) v _ Q I rx ⟨tu, rfl⟩ ⟨e.1, q⟩
/-- a text and any thing -/
theorem eqAt_thg {pins : List (Addr × Obj)} {σ : L2.St} {H : Hp} {s : Shared} (I : Inv X pins σ H s) {A : Around} (hu : A.units < cLine) {x : V} {v : Value} (rx : RelV x v) (ht : Thg X.K H x) (z : Str) (tu : Tok) : EqAt A s (.str z tu) v (isStr x z) := by
  rcases ht with ⟨a, xs, rfl, ha⟩ | ⟨a, xs, rfl, ha⟩ | ⟨a, kvs, rfl, ha⟩ | hs
  · cases (show v = Value.ref a from rx)
    obtain ⟨us, r1, p1, _⟩ := I.list ha
    exact SeqAt.EqAt.str_list z tu p1.isList hu
  · cases (show v = Value.ref a from rx)
    obtain ⟨us, r1, p1, _⟩ := I.tuple ha
    exact SeqAt.EqAt.str_tuple z tu p1 hu
  · cases (show v = Value.ref a from rx)
    exact EqAt.str_dict z tu (dict_at I ha) hu
  · cases x with
    | str t =>
      obtain ⟨t2, rfl⟩ := rx
      have e : (z == t) = isStr (.str t) z := by
        show (z == t) = decide (t = z)
        rw [Bool.eq_iff_iff, beq_iff_eq, decide_eq_true_eq]
        exact eq_comm
      rw [← e]
      exact SeqAt.EqAt.str_str z tu t t2
    | non =>
      cases rx
      exact SeqAt.EqAt.str_none z tu
    | int i =>
      obtain ⟨t2, rfl⟩ := rx
      exact SeqAt.EqAt.str_int z tu i t2
    | bl b =>
      cases rx
      exact SeqAt.EqAt.str_bool z tu b
    | _ => exact absurd hs (by simp [scal])
def rInS (K : PySem.W.Frag) (neg : Bool) : R2 := fun x y H Q => ∃ (p : Addr) (zs : List Str), y = .ref p ∧ SqT K H p (zs.map V.str) ∧ Thg K H x ∧ Q (.bl (if neg then !(zs.any fun z => isStr x z) else zs.any fun z => isStr x z)) H
def hitU (x : V) : Value → Bool
  | .str t _ => isStr x t
  | _ => false
theorem hits_strs {x : V} : ∀ {zs : List Str} {us : List Value}, Vals (zs.map V.str) us → us.any (hitU x) = zs.any fun z => isStr x z
  | [], _, h => by cases h; rfl
  | z :: zs, _, h => by
    cases h with
    | cons r rs =>
      obtain ⟨t, rfl⟩ := r
      rw [List.any_cons, List.any_cons, hits_strs rs]
      rfl
theorem strs_mem {zs : List Str} {us : List Value} (h : Vals (zs.map V.str) us) {u : Value} (hu : u ∈ us) : ∃ z t, u = .str z t := by
  obtain ⟨j, hj⟩ := List.getElem?_of_mem hu
  have hz : ∃ y, (zs.map V.str)[j]? = some y := by
    cases e : (zs.map V.str)[j]? with
    | some y => exact ⟨y, rfl⟩
    | none =>
      rw [h.none_of e] at hj
      cases hj
  obtain ⟨y, hy⟩ := hz
  obtain ⟨u', hu', r⟩ := h.get hy
  rw [hj] at hu'
  cases hu'
  rw [List.getElem?_map] at hy
  cases hz2 : zs[j]? with
  | none => rw [hz2] at hy; cases hy
  | some z =>
    rw [hz2] at hy
    cases hy
    obtain ⟨t, rfl⟩ := r
    exact ⟨z, t, rfl⟩
theorem op_inS (hu : X.A.units + 1 < cLine) : OpR X (compareOp .In) (rInS X.K false) := by
  intro pins s σ H x y v u Q I rx ry h
  obtain ⟨p, zs, rfl, hq, ht, q⟩ := h
  cases ry
  obtain ⟨its, r, pl, hz⟩ := I.tuple hq
  refine SeqAt.in_tupleAt (hitU x) pl (fun w hw => ?_) ⟨.bl _, H, I, rfl, ?_⟩
  · obtain ⟨z, t, rfl⟩ := strs_mem r (show w ∈ its by simpa using hw)
    exact eqAt_thg I hu rx ht z t
  · rw [show its.toArray.any (hitU x) = its.any (hitU x) by simp, hits_strs r]
    exact q
theorem op_notInS (hu : X.A.units + 1 < cLine) : OpR X (compareOp .NotIn) (rInS X.K true) := by
  intro pins s σ H x y v u Q I rx ry h
  obtain ⟨p, zs, rfl, hq, ht, q⟩ := h
  cases ry
  obtain ⟨its, r, pl, hz⟩ := I.tuple hq
  refine SeqAt.notIn_tupleAt (hitU x) pl (fun w hw => ?_) ⟨.bl _, H, I, rfl, ?_⟩
  · obtain ⟨z, t, rfl⟩ := strs_mem r (show w ∈ its by simpa using hw)
    exact eqAt_thg I hu rx ht z t
  · rw [show its.toArray.any (hitU x) = its.any (hitU x) by simp, hits_strs r]
    exact q
/-- t + u, however -/
def rCatTS (K : PySem.W.Frag) : R2 := fun x y H Q => ∃ a b xs ys, x = .ref a ∧ y = .ref b ∧ SqT K H a xs ∧ SqT K H b ys ∧ xs.length + ys.length ≤ sizeLine ∧ ∀ p H', L2.Same H H' → SqT K H' p (xs ++ ys) → Q (.ref p) H'
theorem op_catTS : OpR X (binaryOp .Add) (rCatTS X.K) := by
  intro pins s σ H x y v u Q I rx ry h
  obtain ⟨a, b, xs, ys, rfl, rfl, ha, hb, hz, q⟩ := h
  refine op_catA pins s σ H _ _ v u Q I rx ry ⟨a, b, xs, ys, rfl, rfl, ha, hb, hz, fun e => ?_, fun _ e => ?_, fun _ _ p hp => q p _ (HX.same_new hp) (SqT.of upd_same)⟩
  · subst e
    exact q b H (L2.Same.refl H) hb
  · subst e
    exact q a H (L2.Same.refl H) (by rw [List.append_nil]; exact ha)
end
end EQT

/-! ### a tuple turned about: t[::-1] -/
namespace EQT
open PySem PySem.Spec PyProof.Rows L2 HT HX PySem.W
theorem fm_congr {α β : Type} {f g : α → Option β} : ∀ {l : List α}, (∀ x ∈ l, f x = g x) → l.filterMap f = l.filterMap g
  | [], _ => rfl
  | a :: l, h => by
    have ih := fm_congr (l := l) fun x hx => h x (List.mem_cons_of_mem _ hx)
    rw [List.filterMap_cons, List.filterMap_cons, h a (List.mem_cons_self ..), ih]
theorem pick_rev (xs : Array Value) : ((List.range xs.size).filterMap fun (m : Nat) => xs[((xs.size : Int) - 1 + (m : Int) * (-1)).toNat]?).toArray = xs.toList.reverse.toArray := by
  have e : (List.range xs.size).filterMap (fun (m : Nat) => xs[((xs.size : Int) - 1 + (m : Int) * (-1)).toNat]?) = ((List.range xs.size).reverse).filterMap fun m => xs[m]? := by
    rw [← krv_range, List.filterMap_map]
    refine fm_congr fun m hm => ?_
    have := List.mem_range.mp hm
    show xs[((xs.size : Int) - 1 + (m : Int) * (-1)).toNat]? = xs[xs.size - 1 - m]?
    rw [show ((xs.size : Int) - 1 + (m : Int) * (-1)).toNat = xs.size - 1 - m by omega]
  rw [e, List.filterMap_reverse]
  congr 2
  exact krv_all xs
section
variable {prog : Program} {w : World} {A : Around} {E : Value → Shared → Prop} {s : Shared}
theorem adjust_rev (n : Nat) : Builtin.Slice.sliceAdjust none none (-1) (n : Int) = ((n : Int) - 1, -1) := by
  unfold Builtin.Slice.sliceAdjust
  simp
theorem places_rev (n : Nat) : Builtin.Slice.slicePlaces ((n : Int) - 1) (-1) (-1) = n := by
  unfold Builtin.Slice.slicePlaces
  simp
  split <;> omega
theorem sliceApplied_rev {sl : Addr} {vs : Value} {n : Nat} {Q : Int × Int × Nat → Shared → Prop} (hs : s.heap.IsSliceOf sl .none .none vs) (ps : IsPart vs (some (-1)))
    (h : Q ((n : Int) - 1, -1, n) s) : wpAny (model prog w) A (Builtin.Slice.sliceApplied (.ref sl) (pure (n : Int))) Q E s := by
  obtain ⟨os, hos, hcs, hds⟩ := id hs
  unfold Builtin.Slice.sliceApplied Builtin.Slice.sliceFields
  refine wpAny_bind (wpAny_bind (wpAny_field hos hds (x := .none) rfl (wpAny_bind (wpAny_field hos hds (x := .none) rfl (wpAny_bind (wpAny_field hos hds (x := vs) rfl (wpAny_pure ?_)))))))
  refine wpAny_bind (slicePart_ ps ?_)
  show wpAny _ _ (if ((-1 : Int) == 0) = true then _ else _) _ _ s
  rw [if_neg (by decide)]
  refine wpAny_bind (slicePart_none (wpAny_bind (slicePart_none (wpAny_bind (wpAny_pure ?_)))))
  show wpAny _ _ (match Builtin.Slice.sliceAdjust none none (-1) (n : Int) with | (lo, hi) => pure (lo, (-1 : Int), Builtin.Slice.slicePlaces lo hi (-1))) _ _ s
  rw [adjust_rev n]
  show wpAny _ _ (pure ((n : Int) - 1, (-1 : Int), Builtin.Slice.slicePlaces ((n : Int) - 1) (-1) (-1))) _ _ s
  rw [places_rev]
  exact wpAny_pure h
theorem getItem_tuple_rev {t sl : Addr} {items : Array Value} {vs : Value} {Q : Value → Shared → Prop} (ht : IsTup s.heap t items) (hs : s.heap.IsSliceOf sl .none .none vs) (ps : IsPart vs (some (-1)))
    (h : Q (.ref s.heap.objs.size) { s with heap := s.heap.push { cls := .type "tuple", data := .seq items.toList.reverse.toArray } })
    (hsz : items.size ≤ sizeLine) : wpAny (model prog w) A (getItem (.ref t) (.ref sl)) Q E s := by
  have htake : sizeOk (.seq items.toList.reverse.toArray) := by
    show items.toList.reverse.toArray.size ≤ sizeLine
    rw [List.size_toArray, List.length_reverse, Array.length_toList]
    exact hsz
  obtain ⟨os, hos, hcs, hds⟩ := id hs
  have hTs : s.TypeIs (.ref sl) "slice" := ⟨os, hos, hcs⟩
  unfold getItem
  try with_reducible refine wpAny_holding ?_
  first | refine wpAny_bind (wpAny_pure ?_) | skip
  refine wpAny_bind (wpAny_sequenceKey ht.typeIs (by decide) ?_)
  refine wpAny_bind (wpAny_callSpecial?_slot (name := Str.ofString "__getitem__") ht.typeIs PyProof.Rows.slot_tuple_getitem
    (wpAny_call_entry PyProof.Rows.slot_tuple_getitem ht.typeIs entry_tuple_getitem ?_ (args_tuple_getitem _ _)))
  show wpAny _ _ (Builtin.Tuple.tupleItemsOf (.ref t) >>= _) _ _ s
  refine wpAny_bind (tupleItemsOf_ ht ?_)
  refine wpAny_bind (wpAny_typeOf hTs ?_)
  rw [if_pos (by decide)]
  refine wpAny_bind (sliceApplied_rev hs ps ?_)
  have hno : ¬ (((items.size : Int) - 1 == 0 && (-1 : Int) == 1 && items.size == items.size) = true) := by
    intro q
    rw [Bool.and_eq_true, Bool.and_eq_true] at q
    exact absurd (eq_of_beq q.1.2) (by decide)
  show wpAny _ _ (if ((items.size : Int) - 1 == 0 && (-1 : Int) == 1 && items.size == items.size) = true then _ else _) _ _ s
  rw [if_neg hno, pick_rev]
  first
    | exact wpAny_bind (m := Builtin.Tuple.tupleExact _) (wpAny_newObj_type (wpAny_pure ⟨_, rfl, wpAny_pure h⟩) htake)
    | exact wpAny_bind (m := Builtin.Tuple.tupleExact _) (wpAny_newObj_type (wpAny_bind (wpAny_pure (wpAny_pure ⟨_, rfl, wpAny_pure h⟩))) htake)
    | exact wpAny_bind (wpAny_bind (m := Builtin.Tuple.tupleExact _) (wpAny_newObj_type (wpAny_pure (wpAny_pure ⟨_, rfl, wpAny_pure h⟩)) htake))
    | exact wpAny_bind (wpAny_bind (m := Builtin.Tuple.tupleExact _) (wpAny_newObj_type (wpAny_pure ⟨_, rfl, wpAny_pure h⟩) htake))
end
/-! the rule -/
def tRevT (K : PySem.W.Frag) (te : TE) : TE := fun σ H Q => te σ H fun x H1 => ∃ a xs, x = .ref a ∧ SqT K H1 a xs ∧ ∀ p H2, Same H1 H2 → H1 p = none → RU.FzT H2 p xs.reverse → Q (.ref p) H2
theorem pe_revT {X : Cx} {e : Expr} {te : TE} {k : Nat} {p1 p2 p3 pos : Pos} (he : PE X e te) : PE X (.Subscript e (.Slice none none (some (.UnaryOp .USub (.Constant (.int 1) k p1) p2)) p3) pos) (tRevT X.K te) := by
  refine ⟨fun pins s σ H Q I h => ?_⟩
  refine Subscript_ (thn (he.run pins s σ H _ I h) fun v s1 ⟨x, H1, I1, r1, q1⟩ => ?_)
  obtain ⟨a, xs, ex, hx, q⟩ := q1
  subst ex
  cases r1
  have hst : PO X (some (.UnaryOp .USub (.Constant (.int 1) k p1) p2)) (tPart (tUn (rU fun i => .int (-i)) (tC (.int 1)))) := po_some (pe_un un_neg pe_int)
  refine wpAny_Slice (thn (po_none.run pins s1 σ H1 (fun o H2 => o = none ∧ H2 = H1) I1 ⟨rfl, rfl⟩) fun vl s2 ⟨l, H2, I2, pl, el, e2⟩ => ?_)
  subst el e2
  refine thn (po_none.run pins s2 σ H2 (fun o H3 => o = none ∧ H3 = H2) I2 ⟨rfl, rfl⟩) fun vu s3 ⟨u, H3, I3, pu, eu, e3⟩ => ?_
  subst eu e3
  refine thn (hst.run pins s3 σ H3 (fun o H4 => o = some (-1) ∧ H4 = H3) I3 ⟨1, rfl, -1, rfl, rfl, rfl⟩) fun vs s4 ⟨o, H4, I4, ps, eo, e4⟩ => ?_
  subst eo e4
  cases pl
  cases pu
  have I5 : Inv X pins σ H4 { s4 with heap := s4.heap.push { cls := .type "slice", data := .fields #[.none, .none, vs] } } := I4.kept (t' := s4.toks) fun b ob q => Heap.get?_push_of_some _ q
  obtain ⟨its, r, ht, hz⟩ := I5.tuple hx
  have hlen := r.length
  show wpAny (model X.prog X.w) X.A (subscriptTail e (.Slice none none (some (.UnaryOp .USub (.Constant (.int 1) k p1) p2)) p3) (.ref a) (.ref s4.heap.objs.size)) (EP X pins σ Q) X.xe { s4 with heap := s4.heap.push { cls := .type "slice", data := .fields #[.none, .none, vs] } }
  refine tail_any (ops := [.ref a, .ref s4.heap.objs.size]) ht.typeIs (PyProof.Rows.slot_tuple_getitem.lookup) ?_ (by with_unfolding_all rfl)
  refine getItem_tuple_rev ht (Heap.IsSliceOf.new _ .none .none vs) ps ?_ (by rw [List.size_toArray]; omega)
  let ob : Obj := { cls := .type "tuple", data := .seq its.toArray.toList.reverse.toArray }
  refine ⟨.ref _, _, I5.laid (t' := s4.toks) (o := .frz ob (.tup xs.reverse)) (fun b u z => Heap.get?_push_of_some _ z) (Nat.le_refl _) ?_, rfl, q _ _ (same_new (I5.hok.fresh (Nat.le_refl _))) (I5.hok.fresh (Nat.le_refl _)) ⟨ob, upd_same, rfl⟩⟩
  exact ⟨Heap.get?_push_size _ rfl, by rw [List.length_reverse]; exact hz, _, by simpa [ob] using r.reverse, _, Heap.get?_push_size _ rfl, rfl, _, rfl⟩
end EQT

/-! ### a tuple many times: t * n -/
namespace EQT
open PySem PySem.Spec PyProof.Rows L2 HT HX PySem.W
theorem tuple_mulSelf (l : Addr) (items : Array Value) (n : Nat) (dd : Option Addr) (sl : Array (Option Value)) (x : Int) (u : Tok) (c0 : (decide (x < -(2 ^ 63)) || decide (x ≥ 2 ^ 63)) = false) (c1 : (items.isEmpty || x == 1) = true) :
    Meets (Builtin.«tuple.__mul__» ⟨[.ref l, .int x u], []⟩) (fun _ R s => s.heap.get? l = some { cls := .type "tuple", dict := dd, data := .seq items n, slots := sl } ∧ R (.ok (.ret (Value.ref l))) s) :=
  .of_wp fun prog w A R s h => by
    obtain ⟨hp, g, d, tk, os⟩ := s
    obtain ⟨hl, h⟩ := h
    have f1 := AutoSeq1.idx_int
    wp_walk using wpAny_loadPart' hl
    repeat (first
      | (refine wpAny_ite_false (decide_eq_false (by rw [c0]; exact Bool.false_ne_true)) ?_; wp_walk using wpAny_loadPart' hl)
      | (refine wpAny_ite_true (decide_eq_true (by rw [c1])) ?_; wp_walk using wpAny_loadPart' hl))
    exact ⟨_, rfl, h⟩
def rRepTS (K : PySem.W.Frag) : R2 := fun x y H Q => ∃ l k xs, x = .ref l ∧ y = .int k ∧ SqT K H l xs ∧ 1 ≤ k ∧ k ≤ 1000 ∧ xs.length ≤ 1000 ∧ ∀ p H', L2.Same H H' → (p = l ∨ H p = none) → SqT K H' p (List.replicate k.toNat xs).flatten → Q (.ref p) H'
section
variable {X : Cx}
theorem rep_self {α : Type} {xs : List α} {k : Int} (h : xs = [] ∨ k = 1) : (List.replicate k.toNat xs).flatten = xs := by
  rcases h with rfl | rfl
  · induction k.toNat with
    | zero => rfl
    | succ n ih => rw [List.replicate_succ, List.flatten_cons, ih]; rfl
  · show (List.replicate 1 xs).flatten = xs
    simp
theorem op_repTS : OpR X (binaryOp .Mult) (rRepTS X.K) := by
  intro pins s σ H x y v u Q I rx ry h
  obtain ⟨l, k, xs, rfl, rfl, hT, h1, h2, hz, q⟩ := h
  by_cases c : xs = [] ∨ k = 1
  · cases rx
    obtain ⟨t, rfl⟩ := ry
    obtain ⟨its, r, ⟨⟨cls, dd, data, sl⟩, ho, hc, n, hd⟩, hs⟩ := I.tuple hT
    simp only at hc hd
    subst hc hd
    have hle : its.length = xs.length := r.length.symm
    have c0 : (decide (k < -(2 ^ 63)) || decide (k ≥ 2 ^ 63)) = false := by
      rw [decide_eq_false (by omega), decide_eq_false (by omega)] <;> rfl
    have c1 : (its.toArray.isEmpty || k == 1) = true := by
      rcases c with rfl | rfl
      · have e : its = [] := List.eq_nil_of_length_eq_zero hle
        subst e
        rfl
      · exact Bool.or_true _
    refine wpAny_binaryOp_repeat_ref (T := "tuple") (U := "int") (by decide) ⟨_, ho, rfl⟩ (fun s' => typeIs_int s' k t) noFill_tuple_mul F.fills_int_mul F.slot_int_rmul repeat_tuple F.slot_int_index.lookup
      (call_meets F.slot_int_rmul (typeIs_int s k t) F.entry_int_rmul (F.args_int_rmul_2 _ _) (int_rmul_tuple k t l its.toArray n dd sl)
        ⟨ho, rfl, ⟨_, ho, rfl⟩, call_meets F.slot_tuple_mul ⟨_, ho, rfl⟩ F.entry_tuple_mul (F.args_tuple_mul_2 _ _) (tuple_mulSelf l its.toArray n dd sl k t c0 c1) ⟨ho, ?_⟩⟩)
    exact ⟨.ref l, H, I, rfl, q l H (L2.Same.refl H) (.inl rfl) (by rw [rep_self c]; exact hT)⟩
  · exact op_repT pins s σ H _ _ v u Q I rx ry ⟨l, k, xs, rfl, rfl, hT, fun e => c (.inl e), by omega, h2, hz, fun p hp => q p _ (HX.same_new hp) (.inr hp) (SqT.of upd_same)⟩
end
end EQT
/-! ### methods of a builtin's value in a comprehension -/
namespace EQT
open PySem PySem.Spec PyProof.Rows L2 HT HX PySem.W
section
variable {X : Cx} {o e : Expr} {es : List Expr} {to : TE} {t : TA} {name : Str} {apos cpos : Pos} {T id : String} {r : V → List V → Hp → VK → Prop}
theorem pe_bmK (K : PySem.W.Frag) (pa : PlainAttrs T) (slot : Slot T name id) (hty : typeOf (.builtin id) = pure (.type "method_descriptor")) (hm : MtR X id r) (ho : PE X o to) (ha : PA X (e :: es) t)
    (hk : X.K = K := by rfl)
    (hbase : attributeBase o name X.env (eval o X.env) = eval o X.env := by rfl)
    (hfew : ((backTo cpos (starEach (e :: es) X.env)).all (fun x => !x.1) && (backToKw cpos (keywordEach [] X.env)).all (fun x => x.1.isSome)
      && decide ((e :: es).length + ([] : List Keyword).length + (if ([] : List Keyword).isEmpty then 0 else 1) < 30)) = true := by rfl)
    (hline : (apos.endLine == cpos.line) = true := by rfl) (hs : starEach (e :: es) X.env = (false, eval e X.env) :: starEach es X.env := by rfl) (hplain : (backTo cpos (starEach es X.env)).any (·.1) = false := by rfl) :
    PE X (.Call (.Attribute o name apos) (e :: es) [] cpos) (tBM K T r to t) := by
  subst hk
  exact pe_bm pa slot hty hm ho ha hbase hfew hline hs hplain
theorem mt_indexK (K : PySem.W.Frag) (hk : X.K = K := by rfl) : MtR X "list.index" (rIndex K) := by
  subst hk
  exact mt_index
theorem notInK (K : PySem.W.Frag) (h : X.K = K := by rfl) : OpR X (compareOp .NotIn) (rIn K true) := h ▸ op_notIn_seq
theorem inK (K : PySem.W.Frag) (h : X.K = K := by rfl) : OpR X (compareOp .In) (rIn K false) := h ▸ op_in_seq
theorem call_tupK (K : PySem.W.Frag) (h : X.K = K := by rfl) : CallR X (.type "tuple") (fun xs H Q => ∃ p ys, xs = [.ref p] ∧ SqL K H p ys ∧ ∀ (l : Addr) (H' : Hp), Same H H' → H l = none → RU.FzT H' l ys → Q (.ref l) H') := by
  subst h
  exact RU.call_tupS
/-! sums and parts of tuples: the tuple itself, or a new one -/
def rSlN (K : PySem.W.Frag) : V → Option Int → Option Int → Hp → VK → Prop := fun x lo hi H Q => ∃ a xs, x = .ref a ∧ SqT K H a xs ∧ ∀ p H', L2.Same H H' → (p = a ∨ H p = none) → SqT K H' p (cutV xs lo hi) → Q (.ref p) H'
theorem sl_tupN : SlR X (rSlN X.K) := by
  intro pins s σ H x v vl vu lo hi sl Q I rx hs pl pu h
  obtain ⟨a, xs, rfl, hx, q⟩ := h
  refine sl_tupA pins s σ H _ v vl vu lo hi sl Q I rx hs pl pu ⟨a, xs, rfl, hx, fun ⟨w1, w2⟩ => q a H (L2.Same.refl H) (.inl rfl) ?_, fun _ p hp => q p _ (HX.same_new hp) (.inr hp) (SqT.of upd_same)⟩
  unfold cutV
  rw [w1, w2, List.drop_zero, Nat.sub_zero, List.take_length]
  exact hx
def rCatTN (K : PySem.W.Frag) : R2 := fun x y H Q => ∃ a b xs ys, x = .ref a ∧ y = .ref b ∧ SqT K H a xs ∧ SqT K H b ys ∧ xs.length + ys.length ≤ sizeLine ∧ ∀ p H', L2.Same H H' → (p = a ∨ p = b ∨ H p = none) → SqT K H' p (xs ++ ys) → Q (.ref p) H'
theorem op_catTN : OpR X (binaryOp .Add) (rCatTN X.K) := by
  intro pins s σ H x y v u Q I rx ry h
  obtain ⟨a, b, xs, ys, rfl, rfl, ha, hb, hz, q⟩ := h
  refine op_catA pins s σ H _ _ v u Q I rx ry ⟨a, b, xs, ys, rfl, rfl, ha, hb, hz, fun e => ?_, fun _ e => ?_, fun _ _ p hp => q p _ (HX.same_new hp) (.inr (.inr hp)) (SqT.of upd_same)⟩
  · subst e
    exact q b H (L2.Same.refl H) (.inr (.inl rfl)) hb
  · subst e
    exact q a H (L2.Same.refl H) (.inl rfl) (by rw [List.append_nil]; exact ha)
/-! a list and a list that is given -/
theorem add_given (l : Addr) (items : Array Value) (n : Nat) (b : Addr) (items2 : Array Value) (n2 : Nat) (sl : Array (Option Value)) (hc0 : items.size + items2.size ≤ sizeLine) :
    Meets (Builtin.«list.__add__» ⟨[.ref l, .ref b], []⟩) (fun _ R s => s.heap.get? l = some { cls := .type "list", dict := none, data := .seq items n, slots := #[] } ∧ s.heap.get? b = some { cls := .type "list", dict := none, data := .seq items2 n2, slots := sl } ∧ R (.ok (.ret (Value.ref s.heap.objs.size))) { s with heap := s.heap.push { cls := Value.type "list", data := Data.seq (items ++ items2) }, toks := s.toks }) :=
  .of_wp fun prog w A R s h => by obtain ⟨hp, g, d, tk, os⟩ := s; obtain ⟨hl, hb, h⟩ := h; have f1 := AutoSeq1.idx_int; have f2 := AutoSeq1.sub_tuple_tuple; have f3 := AutoSeq1.sub_list_list; have f4 := AutoSeq1.sub_tuple_list; have f5 := AutoSeq1.sub_list_tuple; wp_walk using wpAny_loadPart' hl, wpAny_loadPart' hb; exact ⟨_, rfl, h⟩
theorem op_catQ : OpR X (binaryOp .Add) (fun x y H Q => ∃ l b xs zs, x = .ref l ∧ y = .ref b ∧ H l = some (.lst xs) ∧ SqL X.K H b zs ∧ xs.length + zs.length ≤ sizeLine ∧ ∀ (p : Addr) (H' : Hp), L2.Same H H' → H p = none → H' p = some (.lst (xs ++ zs)) → Q (.ref p) H') := by
  intro pins s σ H x y v u Q I rx ry h
  obtain ⟨l, b, xs, zs, rfl, rfl, hH, hB, hz, q⟩ := h
  cases rx
  cases ry
  obtain ⟨z, its, n, r, hl, e⟩ := I.lstM hH
  obtain ⟨its2, r2, ⟨⟨cls, dd, data, sl⟩, n2, e2, hc, hdd, hd⟩, z2⟩ := I.list hB
  simp only at hc hdd hd
  subst hc hdd hd
  have l2 := r2.length
  refine concat_meets ⟨_, e, rfl⟩ ⟨_, e2, rfl⟩ noFill_list_add seq_list_add F.slot_list_add F.entry_list_add (F.args_list_add_2 _ _) (add_given l its.toArray n b its2.toArray n2 sl (by rw [List.size_toArray, List.size_toArray]; omega)) ⟨e, e2, ?_⟩
  have ea : its.toArray ++ its2.toArray = (its ++ its2).toArray := by simp
  rw [ea]
  exact ⟨.ref _, _, I.lnew (t' := s.toks) (r.append r2) (by rw [List.length_append]; omega), rfl, q _ _ (HX.same_new I.fresh) I.fresh upd_same⟩
end
end EQT

/-! ### sorted(rows), rows a list of tuples of a whole number and any thing, the numbers unlike -/
namespace HS
open PySem PySem.Spec PyProof.Rows L2
section
variable {X : Cx}
def rSortRow (K : PySem.W.Frag) : List V → Hp → VK → Prop := fun vs H Q => ∃ (a : Addr) (ps : List (Addr × Int × V)), vs = [.ref a] ∧ SqL K H a (ps.map fun z => V.ref z.1) ∧ (∀ z ∈ ps, H z.1 = some (.tup [.int z.2.1, z.2.2])) ∧ (ps.map fun z => z.2.1).Nodup ∧
  ∀ (H' : Hp) (l : Addr) (qs : List (Addr × Int × V)), (∀ b o, H b = some o → H' b = some o) → H l = none → qs.Perm ps → qs.Pairwise (fun e f => e.2.1 < f.2.1) → H' l = some (.lst (qs.map fun z => V.ref z.1)) → Q (.ref l) H'
theorem refs_vals : ∀ {ps : List (Addr × Int × V)} {us : List Value}, Vals (ps.map fun z => V.ref z.1) us → us = ps.map fun z => Value.ref z.1
  | [], _, h => by
    cases h
    rfl
  | z :: ps, _, h => by
    cases h with
    | cons r rs =>
      rw [refs_vals rs]
      exact congrArg (fun v => v :: _) r
theorem cr_sortedRow : CallR X (.builtin "sorted") (rSortRow X.K) := by
  intro pins s σ H vs us Q I r h
  obtain ⟨a, ps, rfl, hs, hx, nd, q⟩ := h
  obtain ⟨its, rv, hl, hz⟩ := I.list hs
  rw [Vals.ref1 r]
  have ei := refs_vals rv
  have ent : ∀ z ∈ ps, IsEnt s.heap (.ref z.1) z.2.1 ∧ kfI s.heap (.ref z.1) = z.2.1 := fun z hz => by
    obtain ⟨_, its2, r2, o, ho, hc, n, hd⟩ := I.hok _ _ (hx z hz)
    obtain ⟨u1, u2, rfl, ri, rj⟩ := vals2 r2
    obtain ⟨t1, rfl⟩ := ri
    exact ⟨⟨z.1, o, t1, u2, n, rfl, ho, hc, hd⟩, kfI_of ho hd⟩
  have inj : ∀ v ∈ its, ∀ u ∈ its, kfI s.heap v = kfI s.heap u → v = u := by
    intro v hv u hu hvu
    rw [ei] at hv hu
    obtain ⟨z, hz, rfl⟩ := List.mem_map.mp hv
    obtain ⟨y, hy, rfl⟩ := List.mem_map.mp hu
    rw [(ent z hz).2, (ent y hy).2] at hvu
    obtain ⟨i, hi⟩ := List.mem_iff_getElem?.mp hz
    obtain ⟨j, hj⟩ := List.mem_iff_getElem?.mp hy
    have e1 : (ps.map fun z => z.2.1)[i]? = some z.2.1 := by rw [List.getElem?_map, hi]; rfl
    have e2 : (ps.map fun z => z.2.1)[j]? = some z.2.1 := by rw [List.getElem?_map, hj, hvu]; rfl
    have eij : i = j := (List.getElem?_inj (List.getElem?_eq_some_iff.mp e1).1 nd).mp (e1.trans e2.symm)
    subst eij
    rw [hi] at hj
    cases hj
    rfl
  refine SrtO.sorted_ord (swo_int (kfI s.heap)) hl.isList (by rw [← rv.length]; exact hz) (fun h2 h₁ a' ha kk => ?_) fun out h1 h2 => ?_
  · refine ents_sortable (s := { s with heap := h₁ }) (by omega) (fun v hv => ?_) inj fun o e => ?_
    · rw [ei] at hv
      obtain ⟨z, hz, rfl⟩ := List.mem_map.mp hv
      obtain ⟨⟨b, o, t, u, n, e, ho, hc, hd⟩, e2⟩ := ent z hz
      rw [e2]
      exact ⟨b, o, t, u, n, e, (kk b o ho).2, hc, hd⟩
    · have e' : some o = some (seqObj "list" its.toArray 0) := e.symm.trans ha
      cases e'
      intro c
      exact absurd (Value.type.inj c) (by decide)
  · obtain ⟨ep, he'⟩ := PyProof.Rows.sortedAll_at s.heap its out.toArray
    obtain ⟨zs, pz, ez⟩ := perm_lift (fun z : Addr × Int × V => Value.ref z.1) h2.perm ps ei.symm
    have rvo : Vals (zs.map fun z => V.ref z.1) out := by
      rw [← ez]
      exact vals_maps (fun z : Addr × Int × V => V.ref z.1) (fun z => Value.ref z.1) zs fun _ _ => rfl
    have hlen : (zs.map fun z => V.ref z.1).length ≤ sizeLine := by
      have e := pz.length_eq
      rw [List.length_map] at hz ⊢
      omega
    have hsort : zs.Pairwise (fun e f => e.2.1 < f.2.1) := by
      have le : zs.Pairwise (fun e f => e.2.1 ≤ f.2.1) := by
        have o1' : out.Pairwise (fun v u => decide (kfI s.heap u < kfI s.heap v) = false) := h1
        rw [← ez, List.pairwise_map] at o1'
        refine List.Pairwise.imp_of_mem (fun {x y} hx hy h => ?_) o1'
        have h2 := of_decide_eq_false h
        rw [(ent x (pz.mem_iff.mp hx)).2, (ent y (pz.mem_iff.mp hy)).2] at h2
        omega
      have ne : zs.Pairwise (fun e f => e.2.1 ≠ f.2.1) := by
        have n1 : (zs.map fun z => z.2.1).Nodup := (pz.map fun z => z.2.1).nodup_iff.mpr nd
        exact List.pairwise_map.mp n1
      exact List.Pairwise.imp (fun {x y} h => by have := h.1; have := h.2; omega) (List.Pairwise.and le ne)
    refine ⟨.ref _, upd H (s.heap.objs.size + 1) (.lst (zs.map fun z => V.ref z.1)), I.laid (t' := s.toks) (fun _ _ => PyProof.Rows.sortedAll_old) (Nat.le_succ _) ⟨hlen, out, ep, rvo, he'⟩, rfl, q _ _ zs (HX.same_new (I.hok.fresh (Nat.le_succ _))) (I.hok.fresh (Nat.le_succ _)) pz hsort upd_same⟩
end
end HS

/-! ### zip of three: TLL -/
namespace RU
open PySem PySem.Spec PyProof.Rows L2 HX RZ
def ItzTLL (K : PySem.W.Frag) (a b c : Addr) : It :=
  ⟨fun i H => ∃ (xs ys zs : List V), SqT K H a xs ∧ SqL K H b ys ∧ SqL K H c zs ∧ i < min (min xs.length ys.length) zs.length,
    fun i H v H' => ∃ T x y z, v = .ref T ∧ H T = none ∧ H' = upd H T (.tup [x, y, z]) ∧ (∀ xs, SqT K H a xs → xs[i]? = some x) ∧ (∀ ys, SqL K H b ys → ys[i]? = some y) ∧ ∀ zs, SqL K H c zs → zs[i]? = some z,
    fun i H => ∃ xs ys zs : List V, SqT K H a xs ∧ SqL K H b ys ∧ SqL K H c zs ∧ i = min (min xs.length ys.length) zs.length⟩
def ZnTLL (z TI TO i1 i2 i3 a b c : Addr) (i : Nat) (h : Heap) : Prop := IsZip h z TI TO .none ∧ IsTupOf3 h TI (.ref i1) (.ref i2) (.ref i3) ∧ (∃ x y u, IsTupOf3 h TO x y u) ∧ h.IsTupleIter i1 a i ∧ h.IsListIter i2 b i ∧ h.IsListIter i3 c i
theorem turn_zipTLL {P : Program} {w : World} {K : PySem.W.Frag} {elts : List Expr} {kk : Nat} {tpos : Pos} {a b c z TI TO i1 i2 i3 : Addr} (S : ZipSep3 z TI TO i1 i2 i3 [i1, a] [i2, b] [i3, c]) (na : a ≠ i1) (nb : b ≠ i2) (nc : c ≠ i3) :
    Turn P w K (.Tuple elts kk tpos) (ItzTLL K a b c) [z, TI, TO, i1, i2, i3] z (ZnTLL z TI TO i1 i2 i3 a b c) where
  mem := by simp
  obj := fun i h st m hm => by
    obtain ⟨hz, hTI, ⟨x, y, u, hTO⟩, ⟨o1, e1, _, d1⟩, ⟨o2, e2, _, d2⟩, ⟨o3, e3, _, d3⟩⟩ := st
    have e' : m = z ∨ m = TI ∨ m = TO ∨ m = i1 ∨ m = i2 ∨ m = i3 := by simpa using hm
    rcases e' with q | q | q | q | q | q
    · rw [q]; exact ⟨_, hz, fun v q => nomatch q⟩
    · rw [q]; exact ⟨_, hTI, fun v q => nomatch q⟩
    · rw [q]; exact ⟨_, hTO, fun v q => nomatch q⟩
    · rw [q]; exact ⟨o1, e1, fun v q => by rw [d1] at q; cases q⟩
    · rw [q]; exact ⟨o2, e2, fun v q => by rw [d2] at q; cases q⟩
    · rw [q]; exact ⟨o3, e3, fun v q => by rw [d3] at q; cases q⟩
  keep := fun i h h' st k => by
    obtain ⟨hz, hTI, ⟨x, y, u, hTO⟩, h1, h2, h3⟩ := st
    exact ⟨k z (by simp) _ hz, k TI (by simp) _ hTI, ⟨x, y, u, k TO (by simp) _ hTO⟩, h1.at fun o q => k i1 (by simp) o q, h2.at fun o q => k i2 (by simp) o q, h3.at fun o q => k i3 (by simp) o q⟩
  item := by
    intro X hP hw hK hc i pins s σ H E I hf st hg
    subst hP hw hK
    obtain ⟨hz, hTI, hTO, h1, h2, h3⟩ := st
    obtain ⟨xs, ys, zs, hqx, hqy, hqz, hlt⟩ := hg
    obtain ⟨its, rv, p, _⟩ := I.tuple hqx
    obtain ⟨its2, rv2, p2, _⟩ := I.list hqy
    obtain ⟨its3, rv3, p3, _⟩ := I.list hqz
    have hh : X.A.handled = none := I.ok.hd hc
    have W := GoesN.zip3 (prog := X.prog) (w := X.w) (A := X.A) (elts := elts) (x1 := kk) (pos := tpos) S (Draws.tuple (A := X.A.in1) hh i1 a na its.toArray) (Draws.list (A := X.A.in1) hh i2 b nb its2.toArray) (Draws.list (A := X.A.in1) hh i3 c nc its3.toArray)
    have l1 := rv.length
    have l2 := rv2.length
    have l3 := rv3.length
    refine W.goes i s (fun u s2 => ∃ x H', Inv X pins σ H' s2 ∧ RelV x u ∧ (ItzTLL X.K a b c).yld i H x H' ∧ ZnTLL z TI TO i1 i2 i3 a b c (i + 1) s2.heap ∧ ∀ b ∈ [z, TI, TO, i1, i2, i3], H' b = none) E (by simp only [List.size_toArray]; omega) ⟨hz, hTI, hTO, ⟨h1, p⟩, ⟨h2, p2.isList⟩, ⟨h3, p3.isList⟩⟩ fun v h' tk hY st' hk htk => ?_
    obtain ⟨T, u1, u2, u3, rfl, hT, e1, e2, e3, hTt⟩ := hY
    have hx : xs[i]? = some (xs[i]'(by omega)) := List.getElem?_eq_getElem (by omega)
    have hy : ys[i]? = some (ys[i]'(by omega)) := List.getElem?_eq_getElem (by omega)
    have hw' : zs[i]? = some (zs[i]'(by omega)) := List.getElem?_eq_getElem (by omega)
    obtain ⟨v1, hu1, r1⟩ := rv.get hx
    obtain ⟨v2, hu2, r2⟩ := rv2.get hy
    obtain ⟨v3, hu3, r3⟩ := rv3.get hw'
    have q1 : v1 = u1 := by
      have : its.toArray[i]? = some v1 := by simpa using hu1
      rw [this] at e1
      exact Option.some.inj e1
    have q2 : v2 = u2 := by
      have : its2.toArray[i]? = some v2 := by simpa using hu2
      rw [this] at e2
      exact Option.some.inj e2
    have q3 : v3 = u3 := by
      have : its3.toArray[i]? = some v3 := by simpa using hu3
      rw [this] at e3
      exact Option.some.inj e3
    subst q1 q2 q3
    have new : ObjOk X.prog X.w (upd H T (.tup [xs[i]'(by omega), ys[i]'(by omega), zs[i]'(by omega)])) h' T (.tup [xs[i]'(by omega), ys[i]'(by omega), zs[i]'(by omega)]) := ⟨by show 3 ≤ sizeLine; decide, [v1, v2, v3], .cons r1 (.cons r2 (.cons r3 .nil)), hTt⟩
    have hf' : ∀ m ∈ [z, TO, i1, i2, i3], FpOk X pins H m := fun m hm => hf m (by
      have e' : m = z ∨ m = TO ∨ m = i1 ∨ m = i2 ∨ m = i3 := by simpa using hm
      rcases e' with q | q | q | q | q <;> simp [q])
    have I1 := I.turnedNew (t' := tk) (ch := [z, TO, i1, i2, i3]) hk hf' hT new
    refine ⟨.ref T, _, I1, rfl, ⟨T, _, _, _, rfl, I.hok.fresh hT, rfl, fun l hl => by rw [I.tuple_inj hl hqx]; exact hx, fun l hl => by rw [I.list_inj hl hqy]; exact hy, fun l hl => by rw [I.list_inj hl hqz]; exact hw'⟩, ⟨st'.1, st'.2.1, st'.2.2.1, st'.2.2.2.1.1, st'.2.2.2.2.1.1, st'.2.2.2.2.2.1⟩, fun m hm => ?_⟩
    have e' : m = z ∨ m = TI ∨ m = TO ∨ m = i1 ∨ m = i2 ∨ m = i3 := by simpa using hm
    have hlt2 : m < s.heap.objs.size := by
      obtain ⟨x, y, u, hTO⟩ := hTO
      rcases e' with q | q | q | q | q | q
      · rw [q]; exact Heap.lt_size hz
      · rw [q]; exact Heap.lt_size hTI
      · rw [q]; exact Heap.lt_size hTO
      · rw [q]; obtain ⟨_, e1, _⟩ := h1; exact Heap.lt_size e1
      · rw [q]; obtain ⟨_, e2, _⟩ := h2; exact Heap.lt_size e2
      · rw [q]; obtain ⟨_, e3, _⟩ := h3; exact Heap.lt_size e3
    rw [upd_ne (Nat.ne_of_lt (Nat.lt_of_lt_of_le hlt2 hT))]
    exact (hf m hm).1
  done := by
    intro X hP hw hK hc i pins s σ H E I hf st hg
    subst hP hw hK
    obtain ⟨hz, hTI, hTO, h1, h2, h3⟩ := st
    obtain ⟨xs, ys, zs, hqx, hqy, hqz, hend⟩ := hg
    obtain ⟨its, rv, p, _⟩ := I.tuple hqx
    obtain ⟨its2, rv2, p2, _⟩ := I.list hqy
    obtain ⟨its3, rv3, p3, _⟩ := I.list hqz
    have hh : X.A.handled = none := I.ok.hd hc
    have W := GoesN.zip3 (prog := X.prog) (w := X.w) (A := X.A) (elts := elts) (x1 := kk) (pos := tpos) S (Draws.tuple (A := X.A.in1) hh i1 a na its.toArray) (Draws.list (A := X.A.in1) hh i2 b nb its2.toArray) (Draws.list (A := X.A.in1) hh i3 c nc its3.toArray)
    have l1 := rv.length
    have l2 := rv2.length
    have l3 := rv3.length
    have en : i = min (min its.toArray.size its2.toArray.size) its3.toArray.size := by simp only [List.size_toArray]; omega
    subst en
    have hf' : ∀ m ∈ [z, TO, i1, i2, i3], FpOk X pins H m := fun m hm => hf m (by
      have e' : m = z ∨ m = TO ∨ m = i1 ∨ m = i2 ∨ m = i3 := by simpa using hm
      rcases e' with q | q | q | q | q <;> simp [q])
    exact W.stops s (fun s1 => Inv X pins σ H s1) E ⟨hz, hTI, hTO, ⟨h1, p⟩, ⟨h2, p2.isList⟩, ⟨h3, p3.isList⟩⟩ fun h' tk hk htk => I.turnedL (t' := tk) (ch := [z, TO, i1, i2, i3]) hk hf'
  self := fun A i s Q E st h => wpAny_pyIter_zip st.1 h
def iZipTLL (K : PySem.W.Frag) (ta : TA) : TI := fun σ H R => ta σ H fun vs H1 => ∃ a b c xs ys zs, vs = [.ref a, .ref b, .ref c] ∧ SqT K H1 a xs ∧ SqL K H1 b ys ∧ SqL K H1 c zs ∧ R (ItzTLL K a b c) H1
theorem pi_zipTLL {X : Cx} {e e2 e3 : Expr} {ta : TA} {p pos tpos : Pos} {elts : List Expr} {kk : Nat} (hg : Gl X "zip") (hm : X.mg "zip" = none) (ha : PA X [e, e2, e3] ta)
    (hs : starEach [e, e2, e3] X.env = (false, eval e X.env) :: starEach [e2, e3] X.env := by rfl) (hpl : (backTo pos (starEach [e2, e3] X.env)).any (·.1) = false := by rfl) :
    PI X (.Tuple elts kk tpos) (.Call (.Name "zip" p) [e, e2, e3] [] pos) (iZipTLL X.K ta) := by
  refine ⟨fun pins s σ H R I h => ?_⟩
  refine Call_ (ld_blt I hg hm PyProof.Rows.boot_zip (PyProof.Rows.callWith_type1 (thn (ha.run pos pins s σ H _ I h) fun us s1 ⟨vs, H1, I1, r1, q1⟩ => ?_) hs hpl))
  obtain ⟨a, b, c, xs, ys, zs, ex, hqx, hqy, hqz, q⟩ := q1
  subst ex
  cases r1 with
  | cons r rr =>
    cases rr with
    | cons r' rr =>
      cases rr with
      | cons r'' rr =>
        cases rr
        cases r
        cases r'
        cases r''
        have fresh6 : ∀ m, m ∈ [s1.heap.objs.size + 5, s1.heap.objs.size + 3, s1.heap.objs.size + 4, s1.heap.objs.size, s1.heap.objs.size + 1, s1.heap.objs.size + 2] → FpOk X pins H1 m := fun m hcm => by
          have e' : m = s1.heap.objs.size + 5 ∨ m = s1.heap.objs.size + 3 ∨ m = s1.heap.objs.size + 4 ∨ m = s1.heap.objs.size ∨ m = s1.heap.objs.size + 1 ∨ m = s1.heap.objs.size + 2 := by simpa using hcm
          have hle : s1.heap.objs.size ≤ m := by
            rcases e' with z | z | z | z | z | z
            · rw [z]; exact Nat.le_add_right _ _
            · rw [z]; exact Nat.le_add_right _ _
            · rw [z]; exact Nat.le_add_right _ _
            · rw [z]; exact Nat.le_refl _
            · rw [z]; exact Nat.le_add_right _ _
            · rw [z]; exact Nat.le_add_right _ _
          exact I1.fpOk hle (I1.hok.fresh hle)
        obtain ⟨its, rv, p1, _⟩ := I1.tuple hqx
        obtain ⟨its2, rv2, p2, _⟩ := I1.list hqy
        obtain ⟨its3, rv3, p3, _⟩ := I1.list hqz
        obtain ⟨o1, ho1, _⟩ := id p1
        obtain ⟨o2, _, ho2, _⟩ := id p2
        obtain ⟨o3, _, ho3, _⟩ := id p3
        have la := Heap.lt_size ho1
        have lb := Heap.lt_size ho2
        have lc := Heap.lt_size ho3
        refine zip_begins3 (begins_tuple a its.toArray) (begins_list b its2.toArray) (begins_list c its3.toArray) p1 p2.isList p3.isList fun h' hz hTI hTO h1 h2 h3 hsz hk => wpAny_pyIter_zip hz ?_
        have I2 : Inv X pins σ H1 { s1 with heap := h' } := I1.kept (t' := s1.toks) hk
        have S : ZipSep3 (s1.heap.objs.size + 5) (s1.heap.objs.size + 3) (s1.heap.objs.size + 4) s1.heap.objs.size (s1.heap.objs.size + 1) (s1.heap.objs.size + 2) [s1.heap.objs.size, a] [s1.heap.objs.size + 1, b] [s1.heap.objs.size + 2, c] :=
          zip_sep3 (fun m hm => by rw [List.mem_singleton.mp hm]; exact la) (fun m hm => by rw [List.mem_singleton.mp hm]; exact lb) (fun m hm => by rw [List.mem_singleton.mp hm]; exact lc)
        exact ⟨s1.heap.objs.size + 5, [s1.heap.objs.size + 5, s1.heap.objs.size + 3, s1.heap.objs.size + 4, s1.heap.objs.size, s1.heap.objs.size + 1, s1.heap.objs.size + 2], _, _, H1, rfl, I2,
          turn_zipTLL S (Nat.ne_of_lt la) (Nat.ne_of_lt (Nat.lt_of_lt_of_le lb (Nat.le_add_right _ _))) (Nat.ne_of_lt (Nat.lt_of_lt_of_le lc (Nat.le_add_right _ _))), ⟨hz, hTI, ⟨_, _, _, hTO⟩, ⟨_, h1, rfl, rfl⟩, ⟨_, h2, rfl, rfl⟩, ⟨_, h3, rfl, rfl⟩⟩, fresh6, q⟩
def YTripTLL (xs ys zs : Nat → Option V) : Nat → Hp → V → Hp → Prop := fun i H v H' => ∃ T x y z, v = .ref T ∧ H T = none ∧ H' = upd H T (.tup [x, y, z]) ∧ xs i = some x ∧ ys i = some y ∧ zs i = some z
theorem walk_zipTLL {K : PySem.W.Frag} {a b c : Addr} {xs ys zs : List V} {n : Nat} (hn : n = min (min xs.length ys.length) zs.length) : Walk (ItzTLL K a b c) n (fun H => SqT K H a xs ∧ SqL K H b ys ∧ SqL K H c zs) (YTripTLL (fun i => xs[i]?) (fun i => ys[i]?) (fun i => zs[i]?)) := by
  subst hn
  refine ⟨fun i _ hi q => ⟨xs, ys, zs, q.1, q.2.1, q.2.2, hi⟩, fun _ q => ⟨xs, ys, zs, q.1, q.2.1, q.2.2, rfl⟩, fun i H v H' _ q y => ?_⟩
  obtain ⟨T, x, y1, z, h1, h2, h3, h4, h5, h6⟩ := y
  exact ⟨T, x, y1, z, h1, h2, h3, h4 xs q.1, h5 ys q.2.1, h6 zs q.2.2⟩
end RU
/-! ### sorted of a tuple of whole numbers -/
namespace HS
open PySem PySem.Spec PyProof.Rows L2
section
variable {X : Cx}
theorem collect_t {prog : Program} {w : World} {A : Around} {E : Value → Shared → Prop} {s : Shared} {Q : List Value → Shared → Prop} (c0 : Addr) {u : Obj} {xs : Array Value} {m : Nat} (g1 : s.heap.get? c0 = some u) (g2 : u.cls = .type "tuple") (g3 : u.data = .seq xs m) (z : xs.size ≤ sizeLine)
    (hQ : ∀ h', (∀ b o, s.heap.get? b = some o → h'.get? b = some o) → s.heap.objs.size ≤ h'.objs.size → Q xs.toList { s with heap := h' }) : wpAny (model prog w) A (collect (.ref c0)) Q E s := by
  have e0 : ∀ g : Heap, g = s.heap.push { cls := .type "list", data := .seq ([] : List Value).toArray } → g.get? s.heap.objs.size = some { cls := .type "list", data := .seq #[] 0 } ∧ (∀ b o, s.heap.get? b = some o → g.get? b = some o) ∧ s.heap.objs.size < g.objs.size := fun g e => by
    have x1 : g.get? s.heap.objs.size = some { cls := .type "list", data := .seq #[] 0 } := by rw [e]; exact Heap.get?_push_size _ rfl
    exact ⟨x1, fun b o k => by rw [e]; exact Heap.get?_push_of_some _ k, Heap.lt_size x1⟩
  obtain ⟨x1, x2, x3⟩ := e0 _ rfl
  unfold collect
  apply wpAny_bind
  apply wpAny_runValue
  apply codeAny_builtin F.entry_proto_collect
  rw [Around.under_plainId F.plain_proto_collect _]
  change wpAny _ A.in1 (newList [] >>= fun v => again (.builtin "list.__iadd__" ⟨[v, .ref c0], []⟩)) _ _ s
  apply wpAny_bind
  refine (wpAny_newObj_type ?_)
  apply wpAny_pure
  refine ⟨plainId_quiet F.plain_list_iadd _, ?_⟩
  apply codeAny_builtin F.entry_list_iadd
  rw [Around.under_plainId F.plain_list_iadd _]
  generalize s.heap.push { cls := .type "list", data := .seq ([] : List Value).toArray } = g at x1 x2 x3 ⊢
  change wpAny _ A.in1 (Builtin.List.listExtendWith (.ref s.heap.objs.size) (.ref c0) (.ref s.heap.objs.size)) _ _ { s with heap := g }
  have y1 := Heap.get?_update_self (Obj.mapSeq (· ++ xs)) x1 rfl
  have y2 : Q xs.toList { s with heap := g.update s.heap.objs.size (Obj.mapSeq (· ++ xs)) } := by
    refine hQ _ (fun b o k => ?_) ?_
    · exact (Heap.get?_update_other _ _ (Nat.ne_of_gt (Heap.lt_size k))).trans (x2 b o k)
    · rw [Heap.size_update]
      exact Nat.le_of_lt x3
  have y3 : ∀ (G : Value → Sem (List Value)), G = (fun v => match v with
      | Value.ref a => do
        match (← load a).data with
          | Data.seq ys _ => pure ys.toList
          | _ => unsupported "internal:collect"
      | _ => unsupported "internal:collect") → wpAny (model prog w) A (G (.ref s.heap.objs.size)) Q E { s with heap := g.update s.heap.objs.size (Obj.mapSeq (· ++ xs)) } := fun G e => by
    rw [e]
    change wpAny _ A (load s.heap.objs.size >>= _) _ _ _
    apply wpAny_bind
    apply wpAny_load y1
    apply wpAny_pure
    have e9 : ((#[] : Array Value) ++ xs).toList = xs.toList := by simp
    change Q ((#[] : Array Value) ++ xs).toList _
    rw [e9]
    exact y2
  refine wpAny_mono (wpAny_extend_seq (hsz := z) (A := A) (R := fun r t => r = .ok (.ret (.ref s.heap.objs.size)) ∧ t = { s with heap := g.update s.heap.objs.size (Obj.mapSeq (· ++ xs)) }) (s := { s with heap := g }) _ c0 _ 0 (.inr rfl) x1 (x2 _ _ g1) g2 g3 ⟨rfl, rfl⟩) (fun f t k => ?_) (fun f t k => ?_)
  · cases f with
    | done f =>
      obtain ⟨e, rfl⟩ := k
      cases e
      exact y3 _ rfl
    | again c => exact ⟨k.1, codeAny_mono k.2 fun r t' kr => by obtain ⟨rfl, rfl⟩ := kr; exact y3 _ rfl⟩
  · exact absurd k.1 (by simp)
def rSortTI (K : PySem.W.Frag) : List V → Hp → VK → Prop := fun vs H Q => ∃ (a : Addr) (ns : List Int), vs = [V.ref a] ∧ SqT K H a (ns.map V.int) ∧
  ∀ (ns' : List Int) (p : Addr) (H' : Hp), L2.Same H H' → ns'.Perm ns → ns'.Pairwise (· ≤ ·) → H p = none → H' p = some (.lst (ns'.map V.int)) → Q (.ref p) H'
theorem cr_sortedTI : CallR X (.builtin "sorted") (rSortTI X.K) := by
  intro pins s σ H vs us Q I r h
  obtain ⟨a, ns, rfl, hs, q⟩ := h
  obtain ⟨its, rv, ⟨o, ho, hc, n, hd⟩, hz⟩ := I.tuple hs
  rw [Vals.ref1 r]
  have hi := rv.ints
  have hlen := rv.length
  have small : its.toArray.toList.length ≤ sizeLine := by
    show its.length ≤ sizeLine
    omega
  apply Calls.call_function_entry kind_sorted plain_sorted entry_sorted (args_sorted1 _)
  unfold Builtin.«sorted»
  apply wpAny_bind (m := checkCount "sorted" 1 1 _)
  apply wpAny_pure
  apply wpAny_bind
  apply collect_t a ho hc hd (by rw [List.size_toArray]; omega)
  intro h1 k1 big
  apply wpAny_bind
  apply wpAny_newList _ small
  have new : (h1.push (seqObj "list" its.toArray 0)).get? h1.objs.size = some (seqObj "list" its.toArray 0) := Heap.get?_push_size _ rfl
  have keep : ∀ b o, s.heap.get? b = some o → b ≠ h1.objs.size ∧ (h1.push (seqObj "list" its.toArray 0)).get? b = some o := fun b o e => ⟨Nat.ne_of_lt (Nat.lt_of_lt_of_le (Heap.lt_size e) big), Heap.get?_push_of_some _ (k1 b o e)⟩
  have lt1 : h1.objs.size < (h1.push (seqObj "list" its.toArray 0)).objs.size := Heap.lt_size new
  generalize h1.push (seqObj "list" its.toArray 0) = h2 at new keep lt1
  apply wpAny_bind
  apply wpAny_holding
  refine wpAny_call_entry slot_list_sort ⟨_, new, rfl⟩ entry_list_sort (SrtO.list_sort_ord SrtO.swo_int new (by omega) (fun g => SrtO.ints_sortable hi g) fun out o1 o2 => ⟨_, rfl, ?_⟩) (args_list_sort _)
  obtain ⟨k2, k3, k4⟩ := SrtO.ints_out hi o1 o2
  obtain ⟨ep, he'⟩ := PyProof.Rows.sortedHeap_at (vs := its) (out := out.toArray) new
  have l9 : ((out.map SrtO.iv).map V.int).length ≤ sizeLine := by
    rw [List.length_map, k3.length_eq]
    rw [List.length_map] at hz
    exact hz
  refine wpAny_pure ⟨_, rfl, .ref _, upd H h1.objs.size (.lst ((out.map SrtO.iv).map V.int)), I.laid (t' := s.toks) (fun b o e => ?_) big ⟨l9, out, ep, vals_of_ints k2, he'⟩, rfl, ?_⟩
  · exact (PyProof.Rows.sortedHeap_old (keep b o e).1 (Heap.lt_size (keep b o e).2)).trans (keep b o e).2
  · exact q _ _ _ (HX.same_new (I.hok.fresh big)) k3 k4 (I.hok.fresh big) upd_same
end
end HS

/-! ### zip of three lists -/
namespace RU
open PySem PySem.Spec PyProof.Rows L2 HX RZ
def ItzLLL (K : PySem.W.Frag) (a b c : Addr) : It :=
  ⟨fun i H => ∃ (xs ys zs : List V), SqL K H a xs ∧ SqL K H b ys ∧ SqL K H c zs ∧ i < min (min xs.length ys.length) zs.length,
    fun i H v H' => ∃ T x y z, v = .ref T ∧ H T = none ∧ H' = upd H T (.tup [x, y, z]) ∧ (∀ xs, SqL K H a xs → xs[i]? = some x) ∧ (∀ ys, SqL K H b ys → ys[i]? = some y) ∧ ∀ zs, SqL K H c zs → zs[i]? = some z,
    fun i H => ∃ xs ys zs : List V, SqL K H a xs ∧ SqL K H b ys ∧ SqL K H c zs ∧ i = min (min xs.length ys.length) zs.length⟩
def ZnLLL (z TI TO i1 i2 i3 a b c : Addr) (i : Nat) (h : Heap) : Prop := IsZip h z TI TO .none ∧ IsTupOf3 h TI (.ref i1) (.ref i2) (.ref i3) ∧ (∃ x y u, IsTupOf3 h TO x y u) ∧ h.IsListIter i1 a i ∧ h.IsListIter i2 b i ∧ h.IsListIter i3 c i
theorem turn_zipLLL {P : Program} {w : World} {K : PySem.W.Frag} {elts : List Expr} {kk : Nat} {tpos : Pos} {a b c z TI TO i1 i2 i3 : Addr} (S : ZipSep3 z TI TO i1 i2 i3 [i1, a] [i2, b] [i3, c]) (na : a ≠ i1) (nb : b ≠ i2) (nc : c ≠ i3) :
    Turn P w K (.Tuple elts kk tpos) (ItzLLL K a b c) [z, TI, TO, i1, i2, i3] z (ZnLLL z TI TO i1 i2 i3 a b c) where
  mem := by simp
  obj := fun i h st m hm => by
    obtain ⟨hz, hTI, ⟨x, y, u, hTO⟩, ⟨o1, e1, _, d1⟩, ⟨o2, e2, _, d2⟩, ⟨o3, e3, _, d3⟩⟩ := st
    have e' : m = z ∨ m = TI ∨ m = TO ∨ m = i1 ∨ m = i2 ∨ m = i3 := by simpa using hm
    rcases e' with q | q | q | q | q | q
    · rw [q]; exact ⟨_, hz, fun v q => nomatch q⟩
    · rw [q]; exact ⟨_, hTI, fun v q => nomatch q⟩
    · rw [q]; exact ⟨_, hTO, fun v q => nomatch q⟩
    · rw [q]; exact ⟨o1, e1, fun v q => by rw [d1] at q; cases q⟩
    · rw [q]; exact ⟨o2, e2, fun v q => by rw [d2] at q; cases q⟩
    · rw [q]; exact ⟨o3, e3, fun v q => by rw [d3] at q; cases q⟩
  keep := fun i h h' st k => by
    obtain ⟨hz, hTI, ⟨x, y, u, hTO⟩, h1, h2, h3⟩ := st
    exact ⟨k z (by simp) _ hz, k TI (by simp) _ hTI, ⟨x, y, u, k TO (by simp) _ hTO⟩, h1.at fun o q => k i1 (by simp) o q, h2.at fun o q => k i2 (by simp) o q, h3.at fun o q => k i3 (by simp) o q⟩
  item := by
    intro X hP hw hK hc i pins s σ H E I hf st hg
    subst hP hw hK
    obtain ⟨hz, hTI, hTO, h1, h2, h3⟩ := st
    obtain ⟨xs, ys, zs, hqx, hqy, hqz, hlt⟩ := hg
    obtain ⟨its, rv, p, _⟩ := I.list hqx
    obtain ⟨its2, rv2, p2, _⟩ := I.list hqy
    obtain ⟨its3, rv3, p3, _⟩ := I.list hqz
    have hh : X.A.handled = none := I.ok.hd hc
    have W := GoesN.zip3 (prog := X.prog) (w := X.w) (A := X.A) (elts := elts) (x1 := kk) (pos := tpos) S (Draws.list (A := X.A.in1) hh i1 a na its.toArray) (Draws.list (A := X.A.in1) hh i2 b nb its2.toArray) (Draws.list (A := X.A.in1) hh i3 c nc its3.toArray)
    have l1 := rv.length
    have l2 := rv2.length
    have l3 := rv3.length
    refine W.goes i s (fun u s2 => ∃ x H', Inv X pins σ H' s2 ∧ RelV x u ∧ (ItzLLL X.K a b c).yld i H x H' ∧ ZnLLL z TI TO i1 i2 i3 a b c (i + 1) s2.heap ∧ ∀ b ∈ [z, TI, TO, i1, i2, i3], H' b = none) E (by simp only [List.size_toArray]; omega) ⟨hz, hTI, hTO, ⟨h1, p.isList⟩, ⟨h2, p2.isList⟩, ⟨h3, p3.isList⟩⟩ fun v h' tk hY st' hk htk => ?_
    obtain ⟨T, u1, u2, u3, rfl, hT, e1, e2, e3, hTt⟩ := hY
    have hx : xs[i]? = some (xs[i]'(by omega)) := List.getElem?_eq_getElem (by omega)
    have hy : ys[i]? = some (ys[i]'(by omega)) := List.getElem?_eq_getElem (by omega)
    have hw' : zs[i]? = some (zs[i]'(by omega)) := List.getElem?_eq_getElem (by omega)
    obtain ⟨v1, hu1, r1⟩ := rv.get hx
    obtain ⟨v2, hu2, r2⟩ := rv2.get hy
    obtain ⟨v3, hu3, r3⟩ := rv3.get hw'
    have q1 : v1 = u1 := by
      have : its.toArray[i]? = some v1 := by simpa using hu1
      rw [this] at e1
      exact Option.some.inj e1
    have q2 : v2 = u2 := by
      have : its2.toArray[i]? = some v2 := by simpa using hu2
      rw [this] at e2
      exact Option.some.inj e2
    have q3 : v3 = u3 := by
      have : its3.toArray[i]? = some v3 := by simpa using hu3
      rw [this] at e3
      exact Option.some.inj e3
    subst q1 q2 q3
    have new : ObjOk X.prog X.w (upd H T (.tup [xs[i]'(by omega), ys[i]'(by omega), zs[i]'(by omega)])) h' T (.tup [xs[i]'(by omega), ys[i]'(by omega), zs[i]'(by omega)]) := ⟨by show 3 ≤ sizeLine; decide, [v1, v2, v3], .cons r1 (.cons r2 (.cons r3 .nil)), hTt⟩
    have hf' : ∀ m ∈ [z, TO, i1, i2, i3], FpOk X pins H m := fun m hm => hf m (by
      have e' : m = z ∨ m = TO ∨ m = i1 ∨ m = i2 ∨ m = i3 := by simpa using hm
      rcases e' with q | q | q | q | q <;> simp [q])
    have I1 := I.turnedNew (t' := tk) (ch := [z, TO, i1, i2, i3]) hk hf' hT new
    refine ⟨.ref T, _, I1, rfl, ⟨T, _, _, _, rfl, I.hok.fresh hT, rfl, fun l hl => by rw [I.list_inj hl hqx]; exact hx, fun l hl => by rw [I.list_inj hl hqy]; exact hy, fun l hl => by rw [I.list_inj hl hqz]; exact hw'⟩, ⟨st'.1, st'.2.1, st'.2.2.1, st'.2.2.2.1.1, st'.2.2.2.2.1.1, st'.2.2.2.2.2.1⟩, fun m hm => ?_⟩
    have e' : m = z ∨ m = TI ∨ m = TO ∨ m = i1 ∨ m = i2 ∨ m = i3 := by simpa using hm
    have hlt2 : m < s.heap.objs.size := by
      obtain ⟨x, y, u, hTO⟩ := hTO
      rcases e' with q | q | q | q | q | q
      · rw [q]; exact Heap.lt_size hz
      · rw [q]; exact Heap.lt_size hTI
      · rw [q]; exact Heap.lt_size hTO
      · rw [q]; obtain ⟨_, e1, _⟩ := h1; exact Heap.lt_size e1
      · rw [q]; obtain ⟨_, e2, _⟩ := h2; exact Heap.lt_size e2
      · rw [q]; obtain ⟨_, e3, _⟩ := h3; exact Heap.lt_size e3
    rw [upd_ne (Nat.ne_of_lt (Nat.lt_of_lt_of_le hlt2 hT))]
    exact (hf m hm).1
  done := by
    intro X hP hw hK hc i pins s σ H E I hf st hg
    subst hP hw hK
    obtain ⟨hz, hTI, hTO, h1, h2, h3⟩ := st
    obtain ⟨xs, ys, zs, hqx, hqy, hqz, hend⟩ := hg
    obtain ⟨its, rv, p, _⟩ := I.list hqx
    obtain ⟨its2, rv2, p2, _⟩ := I.list hqy
    obtain ⟨its3, rv3, p3, _⟩ := I.list hqz
    have hh : X.A.handled = none := I.ok.hd hc
    have W := GoesN.zip3 (prog := X.prog) (w := X.w) (A := X.A) (elts := elts) (x1 := kk) (pos := tpos) S (Draws.list (A := X.A.in1) hh i1 a na its.toArray) (Draws.list (A := X.A.in1) hh i2 b nb its2.toArray) (Draws.list (A := X.A.in1) hh i3 c nc its3.toArray)
    have l1 := rv.length
    have l2 := rv2.length
    have l3 := rv3.length
    have en : i = min (min its.toArray.size its2.toArray.size) its3.toArray.size := by simp only [List.size_toArray]; omega
    subst en
    have hf' : ∀ m ∈ [z, TO, i1, i2, i3], FpOk X pins H m := fun m hm => hf m (by
      have e' : m = z ∨ m = TO ∨ m = i1 ∨ m = i2 ∨ m = i3 := by simpa using hm
      rcases e' with q | q | q | q | q <;> simp [q])
    exact W.stops s (fun s1 => Inv X pins σ H s1) E ⟨hz, hTI, hTO, ⟨h1, p.isList⟩, ⟨h2, p2.isList⟩, ⟨h3, p3.isList⟩⟩ fun h' tk hk htk => I.turnedL (t' := tk) (ch := [z, TO, i1, i2, i3]) hk hf'
  self := fun A i s Q E st h => wpAny_pyIter_zip st.1 h
def iZipLLL (K : PySem.W.Frag) (ta : TA) : TI := fun σ H R => ta σ H fun vs H1 => ∃ a b c xs ys zs, vs = [.ref a, .ref b, .ref c] ∧ SqL K H1 a xs ∧ SqL K H1 b ys ∧ SqL K H1 c zs ∧ R (ItzLLL K a b c) H1
theorem pi_zipLLL {X : Cx} {e e2 e3 : Expr} {ta : TA} {p pos tpos : Pos} {elts : List Expr} {kk : Nat} (hg : Gl X "zip") (hm : X.mg "zip" = none) (ha : PA X [e, e2, e3] ta)
    (hs : starEach [e, e2, e3] X.env = (false, eval e X.env) :: starEach [e2, e3] X.env := by rfl) (hpl : (backTo pos (starEach [e2, e3] X.env)).any (·.1) = false := by rfl) :
    PI X (.Tuple elts kk tpos) (.Call (.Name "zip" p) [e, e2, e3] [] pos) (iZipLLL X.K ta) := by
  refine ⟨fun pins s σ H R I h => ?_⟩
  refine Call_ (ld_blt I hg hm PyProof.Rows.boot_zip (PyProof.Rows.callWith_type1 (thn (ha.run pos pins s σ H _ I h) fun us s1 ⟨vs, H1, I1, r1, q1⟩ => ?_) hs hpl))
  obtain ⟨a, b, c, xs, ys, zs, ex, hqx, hqy, hqz, q⟩ := q1
  subst ex
  cases r1 with
  | cons r rr =>
    cases rr with
    | cons r' rr =>
      cases rr with
      | cons r'' rr =>
        cases rr
        cases r
        cases r'
        cases r''
        have fresh6 : ∀ m, m ∈ [s1.heap.objs.size + 5, s1.heap.objs.size + 3, s1.heap.objs.size + 4, s1.heap.objs.size, s1.heap.objs.size + 1, s1.heap.objs.size + 2] → FpOk X pins H1 m := fun m hcm => by
          have e' : m = s1.heap.objs.size + 5 ∨ m = s1.heap.objs.size + 3 ∨ m = s1.heap.objs.size + 4 ∨ m = s1.heap.objs.size ∨ m = s1.heap.objs.size + 1 ∨ m = s1.heap.objs.size + 2 := by simpa using hcm
          have hle : s1.heap.objs.size ≤ m := by
            rcases e' with z | z | z | z | z | z
            · rw [z]; exact Nat.le_add_right _ _
            · rw [z]; exact Nat.le_add_right _ _
            · rw [z]; exact Nat.le_add_right _ _
            · rw [z]; exact Nat.le_refl _
            · rw [z]; exact Nat.le_add_right _ _
            · rw [z]; exact Nat.le_add_right _ _
          exact I1.fpOk hle (I1.hok.fresh hle)
        obtain ⟨its, rv, p1, _⟩ := I1.list hqx
        obtain ⟨its2, rv2, p2, _⟩ := I1.list hqy
        obtain ⟨its3, rv3, p3, _⟩ := I1.list hqz
        obtain ⟨o1, _, ho1, _⟩ := id p1
        obtain ⟨o2, _, ho2, _⟩ := id p2
        obtain ⟨o3, _, ho3, _⟩ := id p3
        have la := Heap.lt_size ho1
        have lb := Heap.lt_size ho2
        have lc := Heap.lt_size ho3
        refine zip_begins3 (begins_list a its.toArray) (begins_list b its2.toArray) (begins_list c its3.toArray) p1.isList p2.isList p3.isList fun h' hz hTI hTO h1 h2 h3 hsz hk => wpAny_pyIter_zip hz ?_
        have I2 : Inv X pins σ H1 { s1 with heap := h' } := I1.kept (t' := s1.toks) hk
        have S : ZipSep3 (s1.heap.objs.size + 5) (s1.heap.objs.size + 3) (s1.heap.objs.size + 4) s1.heap.objs.size (s1.heap.objs.size + 1) (s1.heap.objs.size + 2) [s1.heap.objs.size, a] [s1.heap.objs.size + 1, b] [s1.heap.objs.size + 2, c] :=
          zip_sep3 (fun m hm => by rw [List.mem_singleton.mp hm]; exact la) (fun m hm => by rw [List.mem_singleton.mp hm]; exact lb) (fun m hm => by rw [List.mem_singleton.mp hm]; exact lc)
        exact ⟨s1.heap.objs.size + 5, [s1.heap.objs.size + 5, s1.heap.objs.size + 3, s1.heap.objs.size + 4, s1.heap.objs.size, s1.heap.objs.size + 1, s1.heap.objs.size + 2], _, _, H1, rfl, I2,
          turn_zipLLL S (Nat.ne_of_lt la) (Nat.ne_of_lt (Nat.lt_of_lt_of_le lb (Nat.le_add_right _ _))) (Nat.ne_of_lt (Nat.lt_of_lt_of_le lc (Nat.le_add_right _ _))), ⟨hz, hTI, ⟨_, _, _, hTO⟩, ⟨_, h1, rfl, rfl⟩, ⟨_, h2, rfl, rfl⟩, ⟨_, h3, rfl, rfl⟩⟩, fresh6, q⟩
def YTripLLL (xs ys zs : Nat → Option V) : Nat → Hp → V → Hp → Prop := fun i H v H' => ∃ T x y z, v = .ref T ∧ H T = none ∧ H' = upd H T (.tup [x, y, z]) ∧ xs i = some x ∧ ys i = some y ∧ zs i = some z
theorem walk_zipLLL {K : PySem.W.Frag} {a b c : Addr} {xs ys zs : List V} {n : Nat} (hn : n = min (min xs.length ys.length) zs.length) : Walk (ItzLLL K a b c) n (fun H => SqL K H a xs ∧ SqL K H b ys ∧ SqL K H c zs) (YTripLLL (fun i => xs[i]?) (fun i => ys[i]?) (fun i => zs[i]?)) := by
  subst hn
  refine ⟨fun i _ hi q => ⟨xs, ys, zs, q.1, q.2.1, q.2.2, hi⟩, fun _ q => ⟨xs, ys, zs, q.1, q.2.1, q.2.2, rfl⟩, fun i H v H' _ q y => ?_⟩
  obtain ⟨T, x, y1, z, h1, h2, h3, h4, h5, h6⟩ := y
  exact ⟨T, x, y1, z, h1, h2, h3, h4 xs q.1, h5 ys q.2.1, h6 zs q.2.2⟩
end RU

/-! ### tuple(reversed(list)): a new tuple without dict -/
namespace RU
open PySem PySem.Spec PyProof.Rows L2 HX RZ
def tRevF (K : PySem.W.Frag) (te : TE) : TE := fun σ H Q => te σ H fun v G => ∃ (l : Addr) (ys : List V), v = .ref l ∧ SqL K G l ys ∧ ∀ (p : Addr) (G' : Hp), Same G G' → G p = none → FzT G' p ys.reverse → Q (.ref p) G'
section
variable {X : Cx}
theorem pe_revF {x : Expr} {tx : TE} {q1 q2 q3 q4 : Pos} (calm : X.calm = true) (g1 : Gl X "tuple") (n1 : X.mg "tuple" = none) (g2 : Gl X "reversed") (n2 : X.mg "reversed" = none) (hx : PE X x tx)
    (ea : starEach [x] X.env = (false, eval x X.env) :: starEach [] X.env := by rfl)
    (eb : starEach [.Call (.Name "reversed" q2) [x] [] q4] X.env = (false, eval (.Call (.Name "reversed" q2) [x] [] q4) X.env) :: starEach [] X.env := by rfl) :
    PE X (.Call (.Name "tuple" q1) [.Call (.Name "reversed" q2) [x] [] q4] [] q3) (tRevF X.K tx) := by
  refine ⟨fun pins s σ H Q I hq => ?_⟩
  refine Call_ (ld_blt I g1 n1 boot_tuple (PyProof.Rows.callWith_type1 (args_cons (Call_ (ld_blt I g2 n2 PyProof.Rows.boot_reversed (PyProof.Rows.callWith_type1 (args_cons (thn (hx.run pins s σ H _ I hq) ?_) ea) ea rfl))) eb) eb rfl))
  rintro u c ⟨v, G, J, rv, l, ys, rfl, hl, go⟩
  refine args_nil ?_
  cases rv
  obtain ⟨us, rel, pl, few⟩ := J.list hl
  have few' : us.toArray.size ≤ sizeLine := by rw [List.size_toArray, ← rel.length]; exact few
  refine PySem.call_reversed_list pl.isList (args_nil ?_)
  generalize hr : revObj l ((us.toArray.size : Int) - 1) = ro
  have J1 : Inv X pins σ G { c with heap := c.heap.push ro } := J.kept (t' := c.toks) fun b o e => Heap.get?_push_of_some _ e
  obtain ⟨w0, w1, w2, w3, w4, w5⟩ := J.fpOk (H' := G) (b := c.heap.objs.size) (Nat.le_refl _) (J.hok.fresh (Nat.le_refl _))
  have isl := pl.isList
  have nl : l ≠ c.heap.objs.size := by
    obtain ⟨ol, hol, _⟩ := id isl
    exact Nat.ne_of_lt (Heap.lt_size hol)
  have atr : (c.heap.push ro).get? c.heap.objs.size = some ro := Heap.get?_push_size _ (by rw [← hr]; rfl)
  refine RT.call_tuple_rev (s := { c with heap := c.heap.push ro }) (J.ok.hd calm) ⟨ro, atr, by rw [← hr]; rfl, by rw [← hr]; rfl⟩ (isl.push _) nl few' fun h' tk acc hk hi => ?_
  have J2 : Inv X pins σ G { c with heap := h', toks := tk } := J1.turned (t' := tk) (fun b o hb e => hk b o hb e) w0 w1 w3 w4 w5
  have free : G h'.objs.size = none := J2.hok.fresh (Nat.le_refl _)
  have J3 : Inv X pins σ (upd G h'.objs.size (.frz { cls := .type "tuple", data := .seq acc } (.tup ys.reverse))) { c with heap := h'.push { cls := .type "tuple", data := .seq acc }, toks := tk } :=
    J2.laid (t' := tk) (fun b o e => Heap.get?_push_of_some _ e) (Nat.le_refl _) (show ObjOk X.prog X.w _ _ _ (.frz _ (.tup ys.reverse)) from ⟨Heap.get?_push_size _ rfl, by rw [List.length_reverse]; exact few, acc.toList, RT.vals_rev rel hi, by rw [Array.toArray_toList]; exact IsTup.new _ _⟩)
  exact ⟨.ref h'.objs.size, _, J3, rfl, go _ _ (same_new free) free ⟨_, upd_same, rfl⟩⟩
end
end RU
/-! ### plain tuples put together, told alike whichever is empty -/
namespace RU
open PySem PySem.Spec PyProof.Rows L2 HX RZ
def rCatP : R2 := fun x y H Q => ∃ a b xs ys, x = .ref a ∧ y = .ref b ∧ H a = some (.tup xs) ∧ H b = some (.tup ys) ∧ xs.length + ys.length ≤ sizeLine ∧ ∀ (p : Addr) (H' : Hp), Same H H' → H' p = some (.tup (xs ++ ys)) → Q (.ref p) H'
theorem op_catP {X : Cx} : OpR X (binaryOp .Add) rCatP := by
  intro pins s σ H x y v u Q I rx ry h
  obtain ⟨a, b, xs, ys, rfl, rfl, ha, hb, hz, q⟩ := h
  exact op_catA pins s σ H _ _ v u Q I rx ry ⟨a, b, xs, ys, rfl, rfl, SqT.of ha, SqT.of hb, hz, fun z => q b H (Same.refl H) (by rw [z]; exact hb), fun _ z => q a H (Same.refl H) (by rw [z, List.append_nil]; exact ha), fun _ _ p hp => q p _ (same_new hp) upd_same⟩
end RU

/-! list(zip(a, b)) of two lists: a new list of new pairs. -/
namespace ZL
open PySem PySem.Spec PyProof.Rows L2
theorem zip_len : typeLookup (.type "zip") "__len__" = pure none := am_miss_of_fast (by decide +kernel)
theorem zip_hint : typeLookup (.type "zip") "__length_hint__" = pure none := am_miss_of_fast (by decide +kernel)
/-- the zip amid its walk, S the list that is filled beside -/
structure ZSt (h : Heap) (z TI TO i1 i2 l1 l2 S : Addr) (xs ys : Array Value) (i : Nat) : Prop where
  zip : (i = 0 ∧ IsZip h z TI TO .none ∧ ∃ a b, IsPair h TO a b) ∨ ∃ T f oT, IsZipHeld h z TI TO T f ∧ h.get? T = some oT ∧ T ≠ z ∧ T ≠ S ∧ T ≠ i1 ∧ T ≠ i2
  ti : IsPair h TI (.ref i1) (.ref i2)
  i1 : h.IsListIter i1 l1 i
  i2 : h.IsListIter i2 l2 i
  l1 : h.IsList l1 xs
  l2 : h.IsList l2 ys
structure Ap (z TI TO i1 i2 l1 l2 S : Addr) : Prop where
  z : z < S
  TI : TI < S
  TO : TO < S
  i1 : i1 < S
  i2 : i2 < S
  l1 : l1 < S
  l2 : l2 < S
theorem ZSt.keep {h h' : Heap} {z TI TO i1 i2 l1 l2 S : Addr} {xs ys : Array Value} {i : Nat} (x : ZSt h z TI TO i1 i2 l1 l2 S xs ys i) (a : Ap z TI TO i1 i2 l1 l2 S)
    (hk : ∀ b o, b ≠ S → h.get? b = some o → h'.get? b = some o) : ZSt h' z TI TO i1 i2 l1 l2 S xs ys i where
  zip := by
    rcases x.zip with ⟨e, hz, p, q, hp⟩ | ⟨T, f, oT, hz, hT, n1, n2, n3, n4⟩
    · exact .inl ⟨e, hk _ _ (Nat.ne_of_lt a.z) hz, p, q, hk _ _ (Nat.ne_of_lt a.TO) hp⟩
    · exact .inr ⟨T, f, oT, hk _ _ (Nat.ne_of_lt a.z) hz, hk _ _ n2 hT, n1, n2, n3, n4⟩
  ti := hk _ _ (Nat.ne_of_lt a.TI) x.ti
  i1 := x.i1.at fun o e => hk _ o (Nat.ne_of_lt a.i1) e
  i2 := x.i2.at fun o e => hk _ o (Nat.ne_of_lt a.i2) e
  l1 := x.l1.at fun o e => hk _ o (Nat.ne_of_lt a.l1) e
  l2 := x.l2.at fun o e => hk _ o (Nat.ne_of_lt a.l2) e
structure ZG (xs ys : Array Value) (lo : Addr) (h : Heap) (as : List Addr) : Prop where
  rise : as.Pairwise (· < ·)
  above : ∀ a ∈ as, lo < a
  pairs : ∀ (j : Nat) (a : Addr), as[j]? = some a → ∃ x y, xs[j]? = some x ∧ ys[j]? = some y ∧ IsPair h a x y
theorem ZG.there {xs ys : Array Value} {lo : Addr} {h : Heap} {as : List Addr} (g : ZG xs ys lo h as) {a : Addr} (ha : a ∈ as) : a < h.objs.size := by
  obtain ⟨j, hj⟩ := List.mem_iff_getElem?.mp ha
  obtain ⟨_, _, _, _, e⟩ := g.pairs j a hj
  exact Heap.lt_size e
section
variable {prog : Program} {w : World} {A : Around} {E : Value → Shared → Prop} {s : Shared} {z TI TO i1 i2 l1 l2 S : Addr} {xs ys : Array Value}
theorem zitem {i : Nat} {x y : Value} {Q : Option Value → Shared → Prop} (D : ZipApart z TI TO i1 i2 l1 l2) (hst : ZSt s.heap z TI TO i1 i2 l1 l2 S xs ys i) (a : Ap z TI TO i1 i2 l1 l2 S) (hS : S < s.heap.objs.size) (hx : xs[i]? = some x) (hy : ys[i]? = some y)
    (hQ : ∀ h', ZSt h' z TI TO i1 i2 l1 l2 S xs ys (i + 1) → IsPair h' s.heap.objs.size x y → h'.objs.size = s.heap.objs.size + 1 →
      (∀ b o, b ≠ z → b ≠ TO → b ≠ i1 → b ≠ i2 → s.heap.get? b = some o → h'.get? b = some o) → Q (some (.ref s.heap.objs.size)) { s with heap := h' }) :
    wpAny (model prog w) A (pyNext (.ref z)) Q E s := by
  have big : ∀ {b : Addr}, b < S → s.heap.objs.size ≠ b := fun hb => Nat.ne_of_gt (Nat.lt_trans hb hS)
  rcases hst.zip with ⟨e, hz, p, q, hp⟩ | ⟨T, f, oT, hz, hT, n1, n2, n3, n4⟩
  · refine wpAny_pyNext_zip_item D hz hst.ti hp hst.i1 hst.i2 hst.l1 hst.l2 hx hy fun h' b1 b2 b3 b4 b5 b6 hk => hQ h' ⟨.inr ⟨_, false, _, b1, b5, big a.z, Nat.ne_of_gt hS, big a.i1, big a.i2⟩, ?_, b3, b4, ?_, ?_⟩ b5 b6 hk
    · exact hk _ _ D.TIz D.TITO D.TIi1 D.TIi2 hst.ti
    · exact hst.l1.at fun o e => hk _ o D.l1z D.l1TO D.l1i1 D.l1i2 e
    · exact hst.l2.at fun o e => hk _ o D.l2z D.l2TO D.l2i1 D.l2i2 e
  · refine wpAny_pyNext_zip_item_held D hz hT hst.ti hst.i1 hst.i2 hst.l1 hst.l2 hx hy fun h' b1 b3 b4 b5 b6 hk => hQ h' ⟨.inr ⟨T, true, oT, b1, hk T oT n1 n3 n4 hT, n1, n2, n3, n4⟩, ?_, b3, b4, ?_, ?_⟩ b5 b6 fun b o c1 _ c3 c4 e => hk b o c1 c3 c4 e
    · exact hk _ _ D.TIz D.TIi1 D.TIi2 hst.ti
    · exact hst.l1.at fun o e => hk _ o D.l1z D.l1i1 D.l1i2 e
    · exact hst.l2.at fun o e => hk _ o D.l2z D.l2i1 D.l2i2 e
theorem zdone {i : Nat} {Q : Option Value → Shared → Prop} (hh : A.handled = none) (D : ZipApart z TI TO i1 i2 l1 l2) (hst : ZSt s.heap z TI TO i1 i2 l1 l2 S xs ys i) (hend : xs[i]? = none ∨ ys[i]? = none)
    (hQ : ∀ h', (∀ b o, b ≠ z → b ≠ TO → b ≠ i1 → b ≠ i2 → s.heap.get? b = some o → h'.get? b = some o) → Q none { s with heap := h' }) : wpAny (model prog w) A (pyNext (.ref z)) Q E s := by
  rcases hst.zip with ⟨e, hz, p, q, hp⟩ | ⟨T, f, oT, hz, hT, n1, n2, n3, n4⟩
  · exact wpAny_pyNext_zip_end hh D hz hst.ti hp hst.i1 hst.i2 hst.l1 hst.l2 hend hQ
  · exact wpAny_pyNext_zip_end_held hh D hz hT hst.ti hst.i1 hst.i2 hst.l1 hst.l2 hend fun h' hk => hQ h' fun b o c1 _ c3 c4 e => hk b o c1 c3 c4 e
end
section
variable {prog : Program} {w : World} {A : Around} {s : Shared} {R : Result → Shared → Prop} {z TI TO i1 i2 l1 l2 S : Addr} {xs ys : Array Value}
def Own (z TO i1 i2 b : Addr) : Prop := b ≠ z ∧ b ≠ TO ∧ b ≠ i1 ∧ b ≠ i2
theorem zloop (hh : A.handled = none) (D : ZipApart z TI TO i1 i2 l1 l2) (a : Ap z TI TO i1 i2 l1 l2 S) (hn : min xs.size ys.size ≤ sizeLine) (res : Value) {h₁ : Heap}
    (hR : ∀ h' tk acc c as, (∀ b o, b ≠ S → Own z TO i1 i2 b → h₁.get? b = some o → h'.get? b = some o) → h'.get? S = some { cls := .type "list", dict := none, data := .seq acc c, slots := #[] } → as.length = min xs.size ys.size → ZG xs ys S h' as →
      acc.toList = as.map Value.ref → R (.ok (.ret res)) { s with heap := h', toks := tk }) :
    ∀ (k i : Nat) (h : Heap) (tk c : Nat) (acc : Array Value) (as : List Addr), min xs.size ys.size - i = k → i ≤ min xs.size ys.size → ZSt h z TI TO i1 i2 l1 l2 S xs ys i → (∀ b o, b ≠ S → Own z TO i1 i2 b → h₁.get? b = some o → h.get? b = some o) →
      h.get? S = some { cls := .type "list", dict := none, data := .seq acc c, slots := #[] } → acc.toList = as.map Value.ref → as.length = i → ZG xs ys S h as →
      codeAny (model prog w) A (.builtin "list.extend.loop" ⟨[.ref S, .ref z, res], []⟩) R { s with heap := h, toks := tk } := by
  have own : ∀ b, S ≤ b → Own z TO i1 i2 b := fun b hb => ⟨Nat.ne_of_gt (Nat.lt_of_lt_of_le a.z hb), Nat.ne_of_gt (Nat.lt_of_lt_of_le a.TO hb), Nat.ne_of_gt (Nat.lt_of_lt_of_le a.i1 hb), Nat.ne_of_gt (Nat.lt_of_lt_of_le a.i2 hb)⟩
  intro k
  induction k with
  | zero =>
    intro i h tk c acc as hk hi hst hkeep hS hacc hal hG
    have hin : i = min xs.size ys.size := by omega
    refine codeAny_builtin PySem.F.entry_extend_loop ?_
    rw [Around.under_plainId PySem.F.plain_extend_loop _]
    show wpAny _ A.in1 (pyNext (.ref z) >>= _) _ _ _
    refine wpAny_bind (zdone (s := { s with heap := h, toks := tk }) (A := A.in1) (S := S) hh D hst ?_ fun h' he => ?_)
    · rcases Nat.le_total xs.size ys.size with e | e
      · exact .inl (Array.getElem?_eq_none (by omega))
      · exact .inr (Array.getElem?_eq_none (by omega))
    · have hS' : h'.get? S = _ := he S _ (own S (Nat.le_refl _)).1 (own S (Nat.le_refl _)).2.1 (own S (Nat.le_refl _)).2.2.1 (own S (Nat.le_refl _)).2.2.2 hS
      refine wpAny_pure (hR h' tk acc c as (fun b o h1 h2 e => he b o h2.1 h2.2.1 h2.2.2.1 h2.2.2.2 (hkeep b o h1 h2 e)) hS' (by omega) ⟨hG.rise, hG.above, fun j b hj => ?_⟩ hacc)
      obtain ⟨x, y, e1, e2, e3⟩ := hG.pairs j b hj
      have ob := own b (Nat.le_of_lt (hG.above b (List.mem_of_getElem? hj)))
      exact ⟨x, y, e1, e2, he b _ ob.1 ob.2.1 ob.2.2.1 ob.2.2.2 e3⟩
  | succ k ih =>
    intro i h tk c acc as hk hi hst hkeep hS hacc hal hG
    have hlt : i < xs.size := by omega
    have hlt2 : i < ys.size := by omega
    have hsz : acc.size = i := by rw [← Array.length_toList, hacc, List.length_map, hal]
    refine codeAny_builtin PySem.F.entry_extend_loop ?_
    rw [Around.under_plainId PySem.F.plain_extend_loop _]
    show wpAny _ A.in1 (pyNext (.ref z) >>= _) _ _ _
    refine wpAny_bind (zitem (s := { s with heap := h, toks := tk }) (S := S) D hst a (Heap.lt_size hS) (Array.getElem?_eq_getElem hlt) (Array.getElem?_eq_getElem hlt2) fun h' hst' ht hz hkp => ?_)
    dsimp only at ht hz hkp ⊢
    have oS := own S (Nat.le_refl _)
    have hS' := hkp S _ oS.1 oS.2.1 oS.2.2.1 oS.2.2.2 hS
    have up : ∀ b o, b ≠ S → h'.get? b = some o → (h'.update S (Obj.mapSeq (·.push (Value.ref h.objs.size)))).get? b = some o := fun b o hb e => (Heap.get?_update_other _ _ (Ne.symm hb)).trans e
    have hSl : S < h.objs.size := Heap.lt_size hS
    show wpAny _ A.in1 (updateSeq S (·.push (Value.ref h.objs.size)) >>= _) _ _ _
    refine wpAny_bind ?_
    refine wpAny_updateSeq hS' rfl (wpAny_pure ⟨plainId_quiet PySem.F.plain_extend_loop _, ih (i + 1) _ tk _ (acc.push (Value.ref h.objs.size)) (as ++ [h.objs.size]) (by omega) (by omega) (hst'.keep a up)
      (fun b o h1 h2 e => up b o h1 (hkp b o h2.1 h2.2.1 h2.2.2.1 h2.2.2.2 (hkeep b o h1 h2 e))) (Heap.get?_update_self _ hS' rfl) (by rw [Array.toList_push, hacc, List.map_append]; rfl) (by rw [List.length_append, hal]; rfl) ⟨?_, ?_, ?_⟩⟩) (by rw [hsz]; omega) (by show (acc.push (Value.ref h.objs.size)).size ≤ sizeLine + 1; rw [Array.size_push, hsz]; omega)
    · refine List.pairwise_append.mpr ⟨hG.rise, List.pairwise_singleton _ _, fun a ha b hb => ?_⟩
      rw [List.mem_singleton.mp hb]
      exact hG.there ha
    · intro b hb
      rcases List.mem_append.mp hb with hb | hb
      · exact hG.above b hb
      · rw [List.mem_singleton.mp hb]; exact hSl
    · intro j b hj
      rcases Nat.lt_trichotomy j as.length with h1 | h1 | h1
      · rw [List.getElem?_append_left h1] at hj
        obtain ⟨x', y', e1, e2, e3⟩ := hG.pairs j b hj
        have hb := hG.above b (List.mem_of_getElem? hj)
        have ob := own b (Nat.le_of_lt hb)
        exact ⟨x', y', e1, e2, up b _ (Nat.ne_of_gt hb) (hkp b _ ob.1 ob.2.1 ob.2.2.1 ob.2.2.2 e3)⟩
      · subst h1
        have hb : h.objs.size = b := by simpa using hj
        subst hb
        exact ⟨_, _, by rw [hal]; exact Array.getElem?_eq_getElem hlt, by rw [hal]; exact Array.getElem?_eq_getElem hlt2, up _ _ (Nat.ne_of_gt hSl) ht⟩
      · have hnone : (as ++ [h.objs.size])[j]? = none := List.getElem?_eq_none (by rw [List.length_append, List.length_singleton]; omega)
        rw [hnone] at hj; cases hj
theorem zextend (hh : A.handled = none) (D : ZipApart z TI TO i1 i2 l1 l2) (a : Ap z TI TO i1 i2 l1 l2 S) (hn : min xs.size ys.size ≤ sizeLine) (res : Value) (c₀ : Nat) (hst : ZSt s.heap z TI TO i1 i2 l1 l2 S xs ys 0) (hz : IsZip s.heap z TI TO .none)
    (hS : s.heap.get? S = some { cls := .type "list", data := .seq #[] c₀ })
    (hR : ∀ h' tk acc c as, (∀ b o, b ≠ S → Own z TO i1 i2 b → s.heap.get? b = some o → h'.get? b = some o) → h'.get? S = some { cls := .type "list", dict := none, data := .seq acc c, slots := #[] } → as.length = min xs.size ys.size → ZG xs ys S h' as →
      acc.toList = as.map Value.ref → R (.ok (.ret res)) { s with heap := h', toks := tk }) :
    wpAny (model prog w) A.in1 (Builtin.List.listExtendWith (.ref S) (.ref z) res)
      (fun fin s' => match fin with | .done f => R (.ok f) s' | .again c' => c'.quiet = true ∧ codeAny (model prog w) A c' R s') (fun e s' => R (.error e) s') s := by
  have hSz : S ≠ z := Nat.ne_of_gt a.z
  have hT : s.TypeIs (.ref z) "zip" := ⟨_, hz, rfl⟩
  unfold Builtin.List.listExtendWith
  refine wpAny_bind (wpAny_typeOf hT ?_)
  have h1 : Builtin.List.listSameRef (.ref S) (.ref z) = false := by simp [Builtin.List.listSameRef, hSz]
  have h2 : (Value.type "zip" == Value.type "list") = false := by decide
  have h3 : (Value.type "zip" == Value.type "tuple") = false := by decide
  simp only [h1, h2, h3, Bool.or_false, Bool.false_eq_true, if_false]
  refine wpAny_bind (wpAny_pyIter_zip hz ?_)
  refine wpAny_bind (wpAny_holding ?_)
  unfold Builtin.List.listLengthHint
  refine wpAny_bind (wpAny_specialOf hT zip_len ?_)
  show wpAny _ A.in1 (specialOf (Value.ref z) (Str.ofString "__length_hint__") >>= _) _ _ _
  refine wpAny_bind (wpAny_specialOf hT zip_hint ?_)
  refine wpAny_pure ?_
  show wpAny _ A.in1 (rule "list.extend.makes-room" >>= fun _ => Builtin.List.listTouch (.ref S) >>= fun _ =>
    again (.builtin "list.extend.loop" ⟨[.ref S, .ref z, res], []⟩)) _ _ _
  refine wpAny_bind (wpAny_rule ?_)
  refine wpAny_bind ?_
  show wpAny _ A.in1 (updateSeq S (·.push .none) >>= fun _ => updateSeq S (·.pop)) _ _ _
  refine wpAny_bind (wpAny_updateSeq hS rfl ?_)
  have hS₂ := Heap.get?_update_self (Obj.mapSeq (·.push Value.none)) hS rfl
  refine wpAny_updateSeq (hz := by seq_fits) hS₂ rfl ?_
  have hS₃ := Heap.get?_update_self (Obj.mapSeq (·.pop)) hS₂ rfl
  have oth : ∀ b o, b ≠ S → s.heap.get? b = some o → ((s.heap.update S (Obj.mapSeq (·.push Value.none))).update S (Obj.mapSeq (·.pop))).get? b = some o :=
    fun b o hb e => (Heap.get?_update_other _ _ (Ne.symm hb)).trans ((Heap.get?_update_other _ _ (Ne.symm hb)).trans e)
  exact wpAny_pure ⟨plainId_quiet PySem.F.plain_extend_loop _, zloop (s := s) (h₁ := s.heap) hh D a hn res hR (min xs.size ys.size) 0 _ s.toks _ #[] [] (Nat.sub_zero _) (Nat.zero_le _) (hst.keep a oth) (fun b o hb _ e => oth b o hb e) hS₃ rfl rfl
    ⟨List.Pairwise.nil, (fun _ ha => nomatch ha), (fun j a hj => by simp at hj)⟩⟩
theorem zinit (hh : A.handled = none) (D : ZipApart z TI TO i1 i2 l1 l2) (a : Ap z TI TO i1 i2 l1 l2 S) (hn : min xs.size ys.size ≤ sizeLine) (hst : ZSt s.heap z TI TO i1 i2 l1 l2 S xs ys 0) (hz : IsZip s.heap z TI TO .none)
    (hS : s.heap.get? S = some { cls := .type "list", data := .seq #[] })
    (hR : ∀ h' tk acc c as, (∀ b o, b ≠ S → Own z TO i1 i2 b → s.heap.get? b = some o → h'.get? b = some o) → h'.get? S = some { cls := .type "list", dict := none, data := .seq acc c, slots := #[] } → as.length = min xs.size ys.size → ZG xs ys S h' as →
      acc.toList = as.map Value.ref → R (.ok (.ret .none)) { s with heap := h', toks := tk }) :
    wpAny (model prog w) A.in1 (Builtin.«list.__init__» ⟨[.ref S, .ref z], []⟩)
      (fun fin s' => match fin with | .done f => R (.ok f) s' | .again c' => c'.quiet = true ∧ codeAny (model prog w) A c' R s') (fun e s' => R (.error e) s') s := by
  show wpAny _ _ (do let old ← Builtin.List.listItems (.ref S); Builtin.List.listUpdate (.ref S) (fun _ => #[]); letGo old.toList.reverse; Builtin.List.listExtendWith (.ref S) (.ref z) .none) _ _ s
  refine wpAny_bind ?_
  unfold Builtin.List.listItems
  refine wpAny_bind (wpAny_seqItems hS rfl (wpAny_pure ?_))
  show wpAny _ _ (updateSeq S (fun _ => #[]) >>= fun _ => letGo (#[] : Array Value).toList.reverse >>= fun _ => Builtin.List.listExtendWith (.ref S) (.ref z) .none) _ _ s
  refine wpAny_bind (wpAny_updateSeq hS rfl ?_)
  have hS₂ := Heap.get?_update_self (Obj.mapSeq (fun _ => (#[] : Array Value))) hS rfl
  have oth : ∀ b o, b ≠ S → s.heap.get? b = some o → (s.heap.update S (Obj.mapSeq (fun _ => (#[] : Array Value)))).get? b = some o :=
    fun b o hb e => (Heap.get?_update_other _ _ (Ne.symm hb)).trans e
  refine wpAny_bind (wpAny_letGo ?_)
  exact zextend hh D a hn .none _ (hst.keep a oth) (oth _ _ (Nat.ne_of_lt a.z) hz) hS₂ fun h' tk acc c as hk hS' hl hG hacc => hR h' tk acc c as (fun b o hb h2 e => hk b o hb h2 (oth b o hb e)) hS' hl hG hacc
end
section
variable {prog : Program} {w : World} {A : Around} {E : Value → Shared → Prop} {s : Shared} {z TI TO i1 i2 l1 l2 : Addr} {xs ys : Array Value}
theorem call_list {Q : Value → Shared → Prop} (hh : A.handled = none) (D : ZipApart z TI TO i1 i2 l1 l2) (a : Ap z TI TO i1 i2 l1 l2 s.heap.objs.size) (hn : min xs.size ys.size ≤ sizeLine) (hst : ∀ S, ZSt s.heap z TI TO i1 i2 l1 l2 S xs ys 0) (hz : IsZip s.heap z TI TO .none)
    (hQ : ∀ h' tk acc c as, (∀ b o, Own z TO i1 i2 b → s.heap.get? b = some o → h'.get? b = some o) → h'.get? s.heap.objs.size = some { cls := .type "list", dict := none, data := .seq acc c, slots := #[] } → as.length = min xs.size ys.size → ZG xs ys s.heap.objs.size h' as →
      acc.toList = as.map Value.ref → Q (.ref s.heap.objs.size) { s with heap := h', toks := tk }) :
    wpAny (model prog w) A (call (.type "list") [.ref z]) Q E s := by
  refine callType_codes (Q₁ := fun obj s₁ => obj = .ref s.heap.objs.size ∧ s₁ = { s with heap := s.heap.push { cls := .type "list", data := .seq #[] } }) PySem.F.called_list (PySem.F.typeCall_list_1 _) PySem.F.entry_list_init
    (code_list_new _ ⟨rfl, rfl⟩) fun obj s₁ h₁ => ?_
  obtain ⟨rfl, rfl⟩ := h₁
  have hS : (s.heap.push { cls := .type "list", data := .seq #[] }).get? s.heap.objs.size = some { cls := .type "list", data := .seq #[] } := Heap.get?_push_size _ rfl
  have k : ∀ b o, b ≠ s.heap.objs.size → s.heap.get? b = some o → (s.heap.push { cls := .type "list", data := .seq #[] }).get? b = some o := fun b o _ e => Heap.get?_push_of_some _ e
  refine ⟨⟨_, hS, rfl⟩, PySem.F.args_list_init_2 _ _, zinit (A := A.in1) (s := { s with heap := s.heap.push { cls := .type "list", data := .seq #[] } }) (S := s.heap.objs.size) hh D a hn ((hst _).keep a k) (k _ _ (Nat.ne_of_lt a.z) hz) hS (fun h' tk acc c as hk hS' hl hG hacc => ?_)⟩
  exact ⟨rfl, hQ h' tk acc c as (fun b o h2 e => hk b o (Nat.ne_of_lt (Heap.lt_size e)) h2 (Heap.get?_push_of_some _ e)) hS' hl hG hacc⟩
end

/-- the pairs tracked at their addresses -/
def putP : Hp → List Addr → List (V × V) → Hp
  | H, a :: as, p :: ps => putP (upd H a (.tup [p.1, p.2])) as ps
  | H, _, _ => H
theorem putP_off {b : Addr} : ∀ (as : List Addr) (ps : List (V × V)) (H : Hp), b ∉ as → putP H as ps b = H b
  | [], _, _, _ => rfl
  | _ :: _, [], _, _ => rfl
  | a :: as, p :: ps, H, h => by
    show putP (upd H a (.tup [p.1, p.2])) as ps b = H b
    rw [putP_off as ps _ (fun z => h (List.mem_cons_of_mem _ z)), upd_ne (fun z => h (by rw [z]; exact List.mem_cons_self))]
theorem putP_at : ∀ (as : List Addr) (ps : List (V × V)) (H : Hp), as.length = ps.length → as.Nodup → Paired (fun (t : Addr) (p : V × V) => putP H as ps t = some (.tup [p.1, p.2])) as ps
  | [], [], _, _, _ => .nil
  | [], _ :: _, _, h, _ => by cases h
  | _ :: _, [], _, h, _ => by cases h
  | a :: as, p :: ps, H, h, hn => by
    have hn' := List.nodup_cons.mp hn
    have ih := putP_at as ps (upd H a (.tup [p.1, p.2])) (Nat.succ.inj h) hn'.2
    refine .cons ?_ ih
    show putP (upd H a (.tup [p.1, p.2])) as ps a = some (.tup [p.1, p.2])
    rw [putP_off as ps _ hn'.1, upd_same]
section
variable {X : Cx}
theorem laidP {pins : List (Addr × Obj)} {σ : L2.St} {H : Hp} {s : Shared} {h' : Heap} {tk : Nat} {xs ys : List V} {us ws : List Value} {acc : Array Value} {c : Nat} {as : List Addr} {S : Addr} (I : Inv X pins σ H s) (hz : min xs.length ys.length ≤ sizeLine) (r1 : Vals xs us) (r2 : Vals ys ws)
    (hsz : s.heap.objs.size ≤ S) (hk : ∀ b o, s.heap.get? b = some o → h'.get? b = some o) (hS : h'.get? S = some { cls := .type "list", dict := none, data := .seq acc c, slots := #[] }) (hl : as.length = min us.length ws.length) (hG : ZG us.toArray ws.toArray S h' as) (hacc : acc.toList = as.map Value.ref) :
    ∃ H' : Hp, (∀ b o, H b = some o → H' b = some o) ∧ H S = none ∧ (∀ t ∈ as, H t = none) ∧ S ∉ as ∧ as.Nodup ∧ H' S = some (.lst (as.map V.ref)) ∧ Paired (fun (t : Addr) (q : V × V) => H' t = some (.tup [q.1, q.2])) as (xs.zip ys) ∧ Inv X pins σ H' { s with heap := h', toks := tk } := by
  have lx := r1.length
  have ly := r2.length
  have lz : (xs.zip ys).length = as.length := by rw [List.length_zip, hl, lx, ly]
  have hSn : S ∉ as := fun z => Nat.lt_irrefl _ (hG.above _ z)
  have nd : as.Nodup := List.Pairwise.imp (fun {a b} (h : a < b) => Nat.ne_of_lt h) hG.rise
  have new : ∀ t ∈ as, H t = none := fun t ht => I.hok.fresh (Nat.le_trans hsz (Nat.le_of_lt (hG.above t ht)))
  have newS : H S = none := I.hok.fresh hsz
  have atP := putP_at as (xs.zip ys) (upd H S (.lst (as.map V.ref))) (by omega) nd
  have off : ∀ b, b ∉ as → b ≠ S → putP (upd H S (.lst (as.map V.ref))) as (xs.zip ys) b = H b := fun b h1 h2 => by rw [putP_off as _ _ h1, upd_ne h2]
  have low : ∀ b o, s.heap.get? b = some o → b ∉ as ∧ b ≠ S := fun b o e => ⟨fun z => absurd (Heap.lt_size e) (Nat.not_lt.mpr (Nat.le_trans hsz (Nat.le_of_lt (hG.above b z)))), Nat.ne_of_lt (Nat.lt_of_lt_of_le (Heap.lt_size e) hsz)⟩
  have kp : ∀ b u, H b = some u → (putP (upd H S (.lst (as.map V.ref))) as (xs.zip ys)) b = some u := fun b u e => by
    rw [off b (fun z => by rw [new b z] at e; cases e) (fun z => by rw [z, newS] at e; cases e)]
    exact e
  have eS : putP (upd H S (.lst (as.map V.ref))) as (xs.zip ys) S = some (.lst (as.map V.ref)) := by rw [putP_off as _ _ hSn, upd_same]
  refine ⟨putP (upd H S (.lst (as.map V.ref))) as (xs.zip ys), kp, newS, new, hSn, nd, eS, atP, ?_⟩
  refine I.call' (ch := []) rfl ⟨fun b o q _ _ _ => hk b o q, fun b o q _ _ _ => ⟨o.slots, hk b o q⟩, fun b o q n _ => ?_, fun b o q _ => ⟨o, hk b o q⟩, fun b xs q => kp b _ q, fun b o u q => kp b _ q, fun b ps q => ⟨#[], by rw [kp b _ q]; simp⟩⟩ (fun b u q => ?_) I.bare fun b z => by simp at z
  · obtain ⟨z1, z2⟩ := low b o q
    rw [off b z1 z2]
    exact n
  · by_cases hb : b ∈ as
    · obtain ⟨j, pk, e1, e2, e3⟩ := LiI.paired_ix atP hb
      rw [e3] at q
      cases q
      obtain ⟨u, v, f1, f2, f3⟩ := hG.pairs j b e1
      obtain ⟨x1, x2⟩ := pk
      obtain ⟨g1, g2⟩ := List.getElem?_zip_eq_some.mp e2
      obtain ⟨u', hu, ru⟩ := r1.get g1
      obtain ⟨v', hv, rv⟩ := r2.get g2
      have eu : u = u' := by
        have f1' : us[j]? = some u := by simpa using f1
        rw [hu] at f1'
        exact (Option.some.inj f1').symm
      have ev : v = v' := by
        have f2' : ws[j]? = some v := by simpa using f2
        rw [hv] at f2'
        exact (Option.some.inj f2').symm
      subst eu ev
      exact ⟨by show 2 ≤ sizeLine; decide, [u, v], .cons ru (.cons rv .nil), ⟨_, f3, rfl, _, rfl⟩⟩
    · by_cases hb2 : b = S
      · rw [hb2] at q ⊢
        rw [eS] at q
        cases q
        refine ⟨by rw [List.length_map]; omega, acc.toList, c, by rw [hacc]; exact LiI.vals_refs as, ?_⟩
        rw [Array.toArray_toList]
        exact hS
      · rw [off b hb hb2] at q
        exact (I.hok b u q).stay (fun d v _ y => hk d v y) (fun d y => kp d _ y) fun d xs y => kp d _ y
/-- list(zip(e, e2)) of two lists -/
def tListZip (K : PySem.W.Frag) (ta : TA) : TE := fun σ H Q => ta σ H fun vs H1 => ∃ a b xs ys, vs = [.ref a, .ref b] ∧ SqL K H1 a xs ∧ SqL K H1 b ys ∧
  ∀ (H' : Hp) (p : Addr) (ts : List Addr), (∀ b o, H1 b = some o → H' b = some o) → H1 p = none → (∀ t ∈ ts, H1 t = none) → p ∉ ts → ts.Nodup → H' p = some (.lst (ts.map V.ref)) → Paired (fun (t : Addr) (q : V × V) => H' t = some (.tup [q.1, q.2])) ts (xs.zip ys) → Q (.ref p) H'
theorem pe_listZip {e e2 : Expr} {ta : TA} {p p2 cpos pos : Pos} (hc : X.calm = true) (ha : PA X [e, e2] ta) (hg : Gl X "list") (hm : X.mg "list" = none) (hg2 : Gl X "zip") (hm2 : X.mg "zip" = none) (hv : bootBuiltins "list" = some (.type "list") := by first | rfl | decide +kernel)
    (hs2 : starEach [e, e2] X.env = (false, eval e X.env) :: starEach [e2] X.env := by rfl) (hpl : (backTo cpos (starEach [e2] X.env)).any (·.1) = false := by rfl)
    (hs : starEach [.Call (.Name "zip" p2) [e, e2] [] cpos] X.env = (false, eval (.Call (.Name "zip" p2) [e, e2] [] cpos) X.env) :: starEach [] X.env := by rfl) :
    PE X (.Call (.Name "list" p) [.Call (.Name "zip" p2) [e, e2] [] cpos] [] pos) (tListZip X.K ta) := by
  refine ⟨fun pins s σ H Q I hq => ?_⟩
  refine wpAny_Call_Name_kw (ld_blt I hg hm hv ?_)
  refine PyProof.Rows.callWith_type1 ?_ hs rfl
  rw [hs]
  show wpAny _ _ (spliced ((false, eval (.Call (.Name "zip" p2) [e, e2] [] cpos) X.env) :: backTo pos (starEach [] X.env))) _ _ s
  refine Calls.spliced_cons ?_
  refine Call_ (ld_blt I hg2 hm2 PyProof.Rows.boot_zip (PyProof.Rows.callWith_type1 (thn (ha.run cpos pins s σ H _ I hq) fun us s1 ⟨vs, H1, I1, r1, q1⟩ => ?_) hs2 hpl))
  obtain ⟨a, b, xs, ys, ex, hqx, hqy, q⟩ := q1
  subst ex
  cases r1 with
  | cons r rr =>
    cases rr with
    | cons r' rr =>
      cases rr
      cases r
      cases r'
      obtain ⟨its, rv, p1, z1⟩ := I1.list hqx
      obtain ⟨its2, rv2, p2', z2⟩ := I1.list hqy
      refine call_zip_2 p1.isList p2'.isList fun h' hz hTI hTO h1 h2 hsz hk => ?_
      refine Calls.spliced_nil ?_
      have la : a < s1.heap.objs.size := p1.lt
      have lb : b < s1.heap.objs.size := p2'.lt
      have D := PySem.W.ktu_apart s1.heap.objs.size a b la lb
      have kl1 : h'.IsList a its.toArray := p1.isList.at fun o e => hk _ o e
      have kl2 : h'.IsList b its2.toArray := p2'.isList.at fun o e => hk _ o e
      have lx := rv.length
      refine call_list (s := { s1 with heap := h' }) (I1.ok.hd hc) D ⟨?_, ?_, ?_, ?_, ?_, ?_, ?_⟩ ?_ (fun S => ⟨.inl ⟨rfl, hz, _, _, hTO⟩, hTI, h1, h2, kl1, kl2⟩) hz fun h'' tk acc c as hk2 hS hl hG hacc => ?_
      iterate 5 (show _ < h'.objs.size; rw [hsz]; omega)
      · exact Nat.lt_of_lt_of_le la (by show _ ≤ h'.objs.size; rw [hsz]; exact Nat.le_add_right _ _)
      · exact Nat.lt_of_lt_of_le lb (by show _ ≤ h'.objs.size; rw [hsz]; exact Nat.le_add_right _ _)
      · simp only [List.size_toArray]
        omega
      · have old : ∀ b o, s1.heap.get? b = some o → h''.get? b = some o := fun b o e => hk2 b o (have hb : b < s1.heap.objs.size := Heap.lt_size e; ⟨Nat.ne_of_lt (Nat.lt_of_lt_of_le hb (Nat.le_add_right _ _)), Nat.ne_of_lt (Nat.lt_of_lt_of_le hb (Nat.le_add_right _ _)), Nat.ne_of_lt hb, Nat.ne_of_lt (Nat.lt_succ_of_lt hb)⟩) (hk b o e)
        obtain ⟨H', k1, k2, k3, k4, k5, k6, k7, J⟩ := laidP (tk := tk) I1 (by omega) rv rv2 (by rw [hsz]; omega) old hS (by simpa using hl) hG hacc
        exact ⟨.ref _, H', J, rfl, q H' _ as k1 k2 k3 k4 k5 k6 k7⟩
end
end ZL

/-! ### literal tuples: numbers, texts, None, tuples of these -/
namespace LT
open PySem PySem.Spec PyProof.Rows L2 HX RZ TR RU
inductive Lit
  | int (i : Int)
  | str (s : Str)
  | bl (b : Bool)
  | non
  | tup (fz : Bool) (xs : List Lit)
def TupAt (H : Hp) (fz : Bool) (a : Addr) (xs : List V) : Prop := match fz with
  | true => FzT H a xs
  | false => H a = some (.tup xs)
mutual
inductive LitAt (H : Hp) : V → Lit → Prop
  | int (i : Int) : LitAt H (.int i) (.int i)
  | str (s : Str) : LitAt H (.str s) (.str s)
  | bl (b : Bool) : LitAt H (.bl b) (.bl b)
  | non : LitAt H .non .non
  | tup {fz : Bool} {a : Addr} {xs : List V} {ls : List Lit} : TupAt H fz a xs → LitAll H xs ls → LitAt H (.ref a) (.tup fz ls)
inductive LitAll (H : Hp) : List V → List Lit → Prop
  | nil : LitAll H [] []
  | cons {v : V} {vs : List V} {l : Lit} {ls : List Lit} : LitAt H v l → LitAll H vs ls → LitAll H (v :: vs) (l :: ls)
end
theorem TupAt.keep {H H' : Hp} (k : Keep H H') {fz : Bool} {a : Addr} {xs : List V} (h : TupAt H fz a xs) : TupAt H' fz a xs := by
  cases fz with
  | true =>
    obtain ⟨o, h1, h2⟩ := h
    exact ⟨o, k.frz h1, h2⟩
  | false => exact k.all a _ rfl h
theorem TupAt.sq {K : PySem.W.Frag} {H : Hp} {fz : Bool} {a : Addr} {xs : List V} (h : TupAt H fz a xs) : SqT K H a xs := by
  cases fz with
  | true =>
    obtain ⟨o, h1, _⟩ := h
    exact .inl (.inr ⟨o, h1⟩)
  | false => exact SqT.of h
mutual
theorem LitAt.keep {H H' : Hp} (k : Keep H H') : ∀ {v : V} {l : Lit}, LitAt H v l → LitAt H' v l
  | _, _, .int i => .int i
  | _, _, .str i => .str i
  | _, _, .bl i => .bl i
  | _, _, .non => .non
  | _, _, .tup h1 h2 => .tup (h1.keep k) (LitAll.keep k h2)
theorem LitAll.keep {H H' : Hp} (k : Keep H H') : ∀ {vs : List V} {ls : List Lit}, LitAll H vs ls → LitAll H' vs ls
  | _, _, .nil => .nil
  | _, _, .cons h1 h2 => .cons (LitAt.keep k h1) (LitAll.keep k h2)
end
mutual
def Lit.data : Lit → PyData
  | .int i => .int i
  | .str s => .str s
  | .bl b => .bool b
  | .non => .none
  | .tup _ ls => .tuple (datas ls)
def datas : List Lit → List PyData
  | [] => []
  | l :: ls => l.data :: datas ls
end
mutual
theorem LitAt.dp {K : PySem.W.Frag} {H : Hp} : ∀ {v : V} {l : Lit}, LitAt H v l → Dp K H v l.data
  | _, _, .int i => .int i
  | _, _, .str i => .str i
  | _, _, .bl i => .bl i
  | _, _, .non => .non
  | _, _, .tup h1 h2 => .tup h1.sq (LitAll.dp h2)
theorem LitAll.dp {K : PySem.W.Frag} {H : Hp} : ∀ {vs : List V} {ls : List Lit}, LitAll H vs ls → DpAll K H vs (datas ls)
  | _, _, .nil => .nil
  | _, _, .cons h1 h2 => .cons (LitAt.dp h1) (LitAll.dp h2)
end
theorem LitAll.len {H : Hp} : ∀ {vs : List V} {ls : List Lit}, LitAll H vs ls → vs.length = ls.length
  | _, _, .nil => rfl
  | _, _, .cons _ h2 => congrArg (· + 1) (LitAll.len h2)
def tLit (l : Lit) : TE := fun _ H Q => ∀ (v : V) (H' : Hp), Same H H' → LitAt H' v l → Q v H'
def tLits (ls : List Lit) : TA := fun _ H Q => ∀ (vs : List V) (H' : Hp), Same H H' → LitAll H' vs ls → Q vs H'
section
variable {X : Cx}
theorem le {e : Expr} {t u : TE} (h : PE X e t) (w : ∀ σ H Q, u σ H Q → t σ H Q) : PE X e u := ⟨fun pins s σ H Q I hq => h.run pins s σ H Q I (w σ H Q hq)⟩
theorem lea {es : List Expr} {t u : TA} (h : PA X es t) (w : ∀ σ H Q, u σ H Q → t σ H Q) : PA X es u := ⟨fun pos pins s σ H Q I hq => h.run pos pins s σ H Q I (w σ H Q hq)⟩
theorem int {i : Int} {j pos} : PE X (.Constant (.int i) j pos) (tLit (.int i)) := le pe_int fun _ H _ q => q _ H (Same.refl H) (.int i)
theorem str {s : Str} {j pos} : PE X (.Constant (.str s) j pos) (tLit (.str s)) := le pe_str fun _ H _ q => q _ H (Same.refl H) (.str s)
theorem bl {b : Bool} {j pos} : PE X (.Constant (.bool b) j pos) (tLit (.bl b)) := le pe_bl fun _ H _ q => q _ H (Same.refl H) (.bl b)
theorem non {j pos} : PE X (.Constant .none j pos) (tLit .non) := le pe_non fun _ H _ q => q _ H (Same.refl H) .non
theorem neg {i : Int} {j pos pos2} : PE X (.UnaryOp .USub (.Constant (.int i) j pos) pos2) (tLit (.int (-i))) := le (pe_un un_neg pe_int) fun _ H _ q => ⟨_, rfl, q _ H (Same.refl H) (.int (-i))⟩
theorem nil : PA X [] (tLits []) := lea pa_nil fun _ H _ q => q _ H (Same.refl H) .nil
theorem cons {e : Expr} {es : List Expr} {l : Lit} {ls : List Lit} (h : PE X e (tLit l)) (h2 : PA X es (tLits ls)) (hs : starEach (e :: es) X.env = (false, eval e X.env) :: starEach es X.env := by rfl) : PA X (e :: es) (tLits (l :: ls)) :=
  lea (pa_cons h h2 hs) fun _ _ _ q _ _ s1 r1 vs H2 s2 r2 => q (_ :: vs) H2 (s1.trans s2) (.cons (r1.keep (Keep.of s2)) r2)
theorem tupF {es : List Expr} {ls : List Lit} {x1 : Nat} {pos} (h : PA X es (tLits ls)) (hl : ls.length ≤ 1000 := by decide) : PE X (.Tuple es x1 pos) (tLit (.tup true ls)) :=
  le (RU.pe_tupS h) fun _ _ _ q vs H1 s1 r1 => ⟨by rw [r1.len]; exact Nat.le_trans hl (by decide), fun p H2 s2 _ hf => q (.ref p) H2 (s1.trans s2) (.tup (fz := true) hf (r1.keep (Keep.of s2)))⟩
theorem tupP {es : List Expr} {ls : List Lit} {x1 : Nat} {pos} (h : PA X es (tLits ls)) (hl : ls.length ≤ 1000 := by decide) : PE X (.Tuple es x1 pos) (tLit (.tup false ls)) :=
  le (pe_tup h) fun _ _ _ q vs H1 s1 r1 => ⟨by rw [r1.len]; exact Nat.le_trans hl (by decide), fun p hp => q (.ref p) _ (s1.trans (same_new hp)) (.tup (fz := false) (upd_same) (r1.keep (Keep.of (same_new hp))))⟩
end
end LT

/-! ### list(d.values()): a new list of a dict's values; dicts locked many at once -/
namespace LV2
open PySem PySem.Spec PyProof.Rows L2 HX RZ PySem.W
def tListVals (td : TE) : TE := fun σ H Q => td σ H fun x H1 => ∃ a kvs, x = V.ref a ∧ H1 a = some (.dK kvs) ∧ ∀ (p : Addr) (H' : Hp), Same H1 H' → H1 p = none → H' p = some (.lst (kvs.map (·.2))) → Q (.ref p) H'
theorem vals_of : ∀ {kvs : List (L2.Key × V)} {vs : List (L2.Key × Value)}, KV kvs vs → Vals (kvs.map (·.2)) (vs.map (·.2)) := fun r => by
  unfold KV at r
  induction r with
  | nil => exact .nil
  | cons r _ ih => exact .cons r.2 ih
section
variable {X : Cx} {o : Expr} {p pos apos mpos : Pos} {td : TE}
theorem pe_listVals (hc : X.calm = true) (hd : PE X o td) (hg : Gl X "list") (hm : X.mg "list" = none) (hv : bootBuiltins "list" = some (.type "list") := by first | rfl | decide +kernel) (hbase : attributeBase o "values" X.env (eval o X.env) = eval o X.env := by rfl) (hline : (apos.endLine == mpos.line) = true := by rfl)
    (hs : starEach [Expr.Call (.Attribute o "values" apos) [] [] mpos] X.env = (false, eval (Expr.Call (.Attribute o "values" apos) [] [] mpos) X.env) :: starEach [] X.env := by rfl) :
    PE X (.Call (.Name "list" p) [.Call (.Attribute o "values" apos) [] [] mpos] [] pos) (tListVals td) := by
  refine ⟨fun pins s σ H Q I h => ?_⟩
  refine wpAny_Call_Name_kw (ld_blt I hg hm hv ?_)
  refine PyProof.Rows.callWith_type1 ?_ hs rfl
  rw [hs]
  refine Calls.spliced_cons ?_
  refine wpAny_Call_method0_late hbase hline (thn (hd.run pins s σ H _ I h) fun v s1 ⟨x, H1, I1, r1, a, kvs, ex, ha, q⟩ => ?_)
  subst ex
  obtain rfl : v = Value.ref a := r1
  obtain ⟨hz, hsys, vs, rel, dof⟩ := dk_of I1.hok ha
  obtain ⟨ep, dat⟩ := dof.dictAt
  have dat' := dat
  obtain ⟨ob, es, ho, ex, hdat, hko, hpr, hnd⟩ := dat'
  refine ⟨"dict", "dict.values", F.plainAttrs_dict, F.slot_dict_values, F.type_dict_values, ⟨ob, ho, ex.1⟩, fun b e => ?_, Calls.callWith_builtin rfl (PySem.evalArgs_none ?_)⟩
  · cases e
    exact ⟨ob, ho, ex.2.1⟩
  refine call_meetsIn F.slot_dict_values ⟨ob, ho, ex.1⟩ F.entry_dict_values (F.args_dict_values_1 _) (meets_dict_values (mixKind X.prog X.w) a hsys) ⟨⟨vs, dof⟩, ?_⟩
  have k1 : ∀ b u, s1.heap.get? b = some u → (s1.heap.push { cls := .type "dict_values", data := .fields #[.ref a] }).get? b = some u := fun b u e => Heap.get?_push_of_some _ e
  have dat1 : (s1.heap.push { cls := .type "dict_values", data := .fields #[.ref a] }).DictAt (mixKind X.prog X.w) a vs ep := dat.keep k1
  refine Calls.spliced_nil ?_
  have hlv : vs.length = kvs.length := (KV.length rel).symm
  refine kdl_call (kdl_values (knd := mixKind X.prog X.w) (kvs := vs) (ep := ep)) (I1.ok.hd hc) ⟨⟨_, Heap.get?_push_size _ rfl, rfl, rfl⟩, dat1⟩ (by rw [hlv]; exact hz) fun h' tk acc c hk hS hacc => ?_
  have old : ∀ b u, s1.heap.get? b = some u → h'.get? b = some u := fun b u e => hk b u (k1 b u e)
  have eacc : acc.toList = vs.map (·.2) := kdl_vals_eq acc.toList (by rw [Array.length_toList]; exact hacc.1) fun j v e => hacc.2 j v (by rw [← Array.getElem?_toList]; exact e)
  have J := I1.laid (a := (s1.heap.push { cls := .type "dict_values", data := .fields #[.ref a] }).objs.size) (o := .lst (kvs.map (·.2))) (t' := tk) old (by rw [Heap.size_push]; exact Nat.le_succ _)
    (show ObjOk X.prog X.w _ h' _ (.lst (kvs.map (·.2))) from ⟨by rw [List.length_map]; exact hz, vs.map (·.2), c, vals_of rel, by rw [← eacc, Array.toArray_toList]; exact hS⟩)
  have fr : H1 (s1.heap.push { cls := .type "dict_values", data := .fields #[.ref a] }).objs.size = none := I1.hok.fresh (by rw [Heap.size_push]; exact Nat.le_succ _)
  exact ⟨.ref _, _, J, rfl, q _ _ (same_new fr) fr upd_same⟩
end
/-! ### some dicts locked at once -/
def tLocks : Nat → TE → TE
  | 0, t => t
  | n + 1, t => tLockE (tLocks n t)
def tLockM (t : TE) : TE := fun σ H Q => ∃ n, tLocks n t σ H Q
theorem pe_locks {X : Cx} {e : Expr} {t : TE} (h : PE X e t) : ∀ n, PE X e (tLocks n t)
  | 0 => h
  | n + 1 => pe_lock (pe_locks h n)
theorem pe_lockM {X : Cx} {e : Expr} {t : TE} (h : PE X e t) : PE X e (tLockM t) := ⟨fun pins s σ H Q I ⟨n, hw⟩ => (pe_locks h n).run pins s σ H Q I hw⟩
end LV2

/-! ### dicts by whole numbers as lists of pairs; regions of a heap -/
namespace AL
open PySem PySem.Spec PyProof.Rows L2 HX RZ TR
section
variable {α : Type}
def alk (es : List (Int × α)) (k : Int) : Option α := (es.find? fun q => decide (q.1 = k)).map (·.2)
def aput (es : List (Int × α)) (k : Int) (v : α) : List (Int × α) := if k ∈ es.map (·.1) then es.map (fun q => if q.1 = k then (k, v) else q) else es ++ [(k, v)]
def adel (es : List (Int × α)) (k : Int) : List (Int × α) := es.filter fun q => decide (q.1 ≠ k)
def ent (f : α → V) (q : Int × α) : Key × V := (.inl q.1, f q.2)
theorem alk_nil {k : Int} : alk ([] : List (Int × α)) k = none := rfl
theorem alk_cons {q : Int × α} {es : List (Int × α)} {k : Int} : alk (q :: es) k = if q.1 = k then some q.2 else alk es k := by
  unfold alk
  rw [List.find?_cons]
  by_cases c : q.1 = k
  · rw [decide_eq_true c, if_pos c]
    rfl
  · rw [decide_eq_false c, if_neg c]
theorem alk_none {es : List (Int × α)} {k : Int} : alk es k = none ↔ k ∉ es.map (·.1) := by
  induction es with
  | nil => exact ⟨(fun _ h => nomatch h), fun _ => rfl⟩
  | cons q es ih =>
    rw [alk_cons, List.map_cons, List.mem_cons]
    by_cases c : q.1 = k
    · rw [if_pos c]
      exact ⟨(fun h => nomatch h), fun h => absurd (Or.inl c.symm) h⟩
    · rw [if_neg c, ih]
      exact ⟨fun h z => z.elim (fun e => c e.symm) h, fun h z => h (Or.inr z)⟩
theorem alk_mem {es : List (Int × α)} {k : Int} {v : α} (h : alk es k = some v) : (k, v) ∈ es := by
  induction es with
  | nil => cases h
  | cons q es ih =>
    rw [alk_cons] at h
    by_cases c : q.1 = k
    · rw [if_pos c] at h
      have e := Option.some.inj h
      rw [← c, ← e]
      exact List.mem_cons_self ..
    · rw [if_neg c] at h
      exact List.mem_cons_of_mem _ (ih h)
theorem mem_alk {es : List (Int × α)} (nd : (es.map (·.1)).Nodup) {k : Int} {v : α} (h : (k, v) ∈ es) : alk es k = some v := by
  induction es with
  | nil => cases h
  | cons q es ih =>
    rw [List.map_cons] at nd
    obtain ⟨n1, n2⟩ := List.nodup_cons.mp nd
    rw [alk_cons]
    rcases List.mem_cons.mp h with e | h
    · rw [← e]
      exact if_pos rfl
    · rw [if_neg (fun c => n1 (by rw [c]; exact List.mem_map_of_mem (f := (·.1)) h)), ih n2 h]
theorem aput_new {es : List (Int × α)} {k : Int} {v : α} (h : alk es k = none) : aput es k v = es ++ [(k, v)] := by
  unfold aput
  rw [if_neg (alk_none.mp h)]
theorem alk_app {es fs : List (Int × α)} {k : Int} : alk (es ++ fs) k = (alk es k).or (alk fs k) := by
  induction es with
  | nil => rfl
  | cons q es ih =>
    rw [List.cons_append, alk_cons, alk_cons, ih]
    by_cases c : q.1 = k
    · rw [if_pos c, if_pos c]
      rfl
    · rw [if_neg c, if_neg c]
theorem alk_put {es : List (Int × α)} {k j : Int} {v : α} : alk (aput es k v) j = if j = k then some v else alk es j := by
  by_cases h : k ∈ es.map (·.1)
  · unfold aput
    rw [if_pos h]
    have go : ∀ es : List (Int × α), alk (es.map fun q => if q.1 = k then (k, v) else q) j = if j = k then (alk es k).map (fun _ => v) else alk es j := by
      intro es
      induction es with
      | nil => by_cases c : j = k <;> simp [c, alk_nil]
      | cons q es ih =>
        rw [List.map_cons, alk_cons, alk_cons, alk_cons, ih]
        by_cases c : q.1 = k
        · rw [if_pos c, if_pos c, c]
          by_cases d : j = k
          · rw [if_pos d, if_pos d, if_pos d.symm]
            rfl
          · rw [if_neg d, if_neg d, if_neg (fun e => d e.symm), if_neg (fun e => d e.symm)]
        · rw [if_neg c, if_neg c]
          by_cases d : j = k
          · rw [if_pos d, if_pos d, if_neg (fun e => c (e.trans d))]
          · rw [if_neg d, if_neg d]
    rw [go]
    by_cases d : j = k
    · rw [if_pos d, if_pos d]
      cases e : alk es k with
      | none => exact absurd h (alk_none.mp e)
      | some z => rfl
    · rw [if_neg d, if_neg d]
  · rw [aput_new (alk_none.mpr h), alk_app, alk_cons, alk_nil]
    by_cases d : j = k
    · rw [if_pos d, d, alk_none.mpr h, if_pos rfl]
      rfl
    · rw [if_neg d, if_neg (fun e => d e.symm), Option.or_none]
theorem alk_del {es : List (Int × α)} {k j : Int} : alk (adel es k) j = if j = k then none else alk es j := by
  unfold adel
  induction es with
  | nil => by_cases c : j = k <;> simp [c, alk_nil]
  | cons q es ih =>
    rw [List.filter_cons, alk_cons]
    by_cases c : q.1 = k
    · rw [if_neg (by simp [c]), ih]
      by_cases d : j = k
      · rw [if_pos d, if_pos d]
      · rw [if_neg d, if_neg d, if_neg (fun e => d (e.symm.trans c))]
    · rw [if_pos (by simp [c]), alk_cons, ih]
      by_cases d : j = k
      · rw [if_pos d, if_pos d, if_neg (fun e => c (e.trans d))]
      · rw [if_neg d, if_neg d]
theorem put_keys {es : List (Int × α)} {k : Int} {v : α} : (aput es k v).map (·.1) = if k ∈ es.map (·.1) then es.map (·.1) else es.map (·.1) ++ [k] := by
  unfold aput
  by_cases h : k ∈ es.map (·.1)
  · rw [if_pos h, if_pos h, List.map_map]
    refine List.map_congr_left fun q _ => ?_
    show (if q.1 = k then (k, v) else q).1 = q.1
    by_cases c : q.1 = k
    · rw [if_pos c, c]
    · rw [if_neg c]
  · rw [if_neg h, if_neg h, List.map_append]
    rfl
theorem put_nodup {es : List (Int × α)} {k : Int} {v : α} (nd : (es.map (·.1)).Nodup) : ((aput es k v).map (·.1)).Nodup := by
  rw [put_keys]
  by_cases h : k ∈ es.map (·.1)
  · rw [if_pos h]
    exact nd
  · rw [if_neg h]
    refine List.nodup_iff_pairwise_ne.mpr (List.pairwise_append.mpr ⟨List.nodup_iff_pairwise_ne.mp nd, List.pairwise_singleton .., fun a ha b hb e => h ?_⟩)
    rw [← List.mem_singleton.mp hb, ← e]
    exact ha
theorem del_nodup {es : List (Int × α)} {k : Int} (nd : (es.map (·.1)).Nodup) : ((adel es k).map (·.1)).Nodup := nd.sublist (List.Sublist.map _ List.filter_sublist)
theorem put_mem {es : List (Int × α)} {k : Int} {v : α} {q : Int × α} (h : q ∈ aput es k v) : q = (k, v) ∨ (q ∈ es ∧ q.1 ≠ k) := by
  unfold aput at h
  by_cases c : k ∈ es.map (·.1)
  · rw [if_pos c] at h
    obtain ⟨r, hr, e⟩ := List.mem_map.mp h
    by_cases d : r.1 = k
    · rw [if_pos d] at e
      exact .inl e.symm
    · rw [if_neg d] at e
      exact .inr ⟨e ▸ hr, e ▸ d⟩
  · rw [if_neg c] at h
    rcases List.mem_append.mp h with h | h
    · exact .inr ⟨h, fun e => c (e ▸ List.mem_map_of_mem (f := (·.1)) h)⟩
    · exact .inl (List.mem_singleton.mp h)
theorem del_mem {es : List (Int × α)} {k : Int} {q : Int × α} (h : q ∈ adel es k) : q ∈ es ∧ q.1 ≠ k := by
  obtain ⟨h1, h2⟩ := List.mem_filter.mp h
  exact ⟨h1, of_decide_eq_true h2⟩
theorem inl_ne {i j : Int} : ((Sum.inl i : Key) = .inl j) ↔ i = j := ⟨fun e => by injection e, fun e => by rw [e]⟩
theorem val_ent {f : α → V} {es : List (Int × α)} {k : Int} : valV (es.map (ent f)) (.inl k) = (alk es k).map f := by
  induction es with
  | nil => rfl
  | cons q es ih =>
    rw [List.map_cons, alk_cons]
    by_cases c : q.1 = k
    · rw [if_pos c, valV_pos (inl_ne.mpr c)]
      rfl
    · rw [if_neg c, valV_neg (fun e => c (inl_ne.mp e)), ih]
theorem put_ent {f : α → V} {es : List (Int × α)} {k : Int} {v : α} : putK (es.map (ent f)) (.inl k) (f v) = (aput es k v).map (ent f) := by
  unfold putK
  have e : ((es.map (ent f)).any fun kv => decide (kv.1 = (.inl k : Key))) = decide (k ∈ es.map (·.1)) := by
    rw [valV_any, val_ent]
    cases h : alk es k with
    | none => exact (decide_eq_false (alk_none.mp h)).symm
    | some z => exact (decide_eq_true (List.mem_map_of_mem (f := (·.1)) (alk_mem h))).symm
  rw [e]
  unfold aput
  by_cases h : k ∈ es.map (·.1)
  · rw [decide_eq_true h, if_pos rfl, if_pos h, List.map_map, List.map_map]
    refine List.map_congr_left fun q _ => ?_
    show (if (ent f q).1 = .inl k then ((ent f q).1, f v) else ent f q) = ent f (if q.1 = k then (k, v) else q)
    by_cases c : q.1 = k
    · have e1 : (ent f q).1 = (.inl k : Key) := inl_ne.mpr c
      rw [if_pos c, if_pos e1, e1]
      rfl
    · have e1 : ¬ (ent f q).1 = (.inl k : Key) := fun e => c (inl_ne.mp e)
      rw [if_neg c, if_neg e1]
  · rw [decide_eq_false h, if_neg Bool.false_ne_true, if_neg h, List.map_append]
    rfl
theorem del_ent {f : α → V} {es : List (Int × α)} {k : Int} : dropK (es.map (ent f)) (.inl k) = (adel es k).map (ent f) := by
  unfold dropK adel
  rw [List.filter_map]
  congr 1
  refine List.filter_congr fun q _ => ?_
  show decide ((ent f q).1 ≠ .inl k) = decide (q.1 ≠ k)
  by_cases c : q.1 = k
  · have e1 : (ent f q).1 = (.inl k : Key) := inl_ne.mpr c
    rw [decide_eq_false (fun z => z e1), decide_eq_false (fun z => z c)]
  · have e1 : ¬ (ent f q).1 = (.inl k : Key) := fun e => c (inl_ne.mp e)
    rw [decide_eq_true e1, decide_eq_true c]
theorem sub_len {xs ys : List Int} (nd : xs.Nodup) (h : ∀ x ∈ xs, x ∈ ys) : xs.length ≤ ys.length := List.Nodup.length_le_of_subset nd h
end
/-- all that stands elsewhere stays -/
def Out (F : List Addr) (H H' : Hp) : Prop := ∀ b o, b ∉ F → H b = some o → H' b = some o
theorem Out.refl {F : List Addr} {H : Hp} : Out F H H := fun _ _ _ e => e
theorem Out.trans {F : List Addr} {H H1 H2 : Hp} (a : Out F H H1) (b : Out F H1 H2) : Out F H H2 := fun c o n e => b c o n (a c o n e)
theorem Out.of {F : List Addr} {H H' : Hp} (s : Same H H') : Out F H H' := fun c o _ e => s c o e
theorem Out.mono {F G : List Addr} {H H' : Hp} (h : Out F H H') (s : ∀ x ∈ F, x ∈ G) : Out G H H' := fun c o n e => h c o (fun z => n (s c z)) e
theorem Out.upd {F : List Addr} {H H' : Hp} {p : Addr} {o : HO} (h : Out F H H') (hp : p ∈ F) : Out F H (L2.upd H' p o) := fun c u n e => by
  rw [upd_ne (fun z => n (by rw [z]; exact hp))]
  exact h c u n e
theorem Out.new {F : List Addr} {H H' : Hp} {p : Addr} {o : HO} (h : Out F H H') (hp : H' p = none) : Out F H (L2.upd H' p o) := fun c u n e => by
  have e' := h c u n e
  rw [upd_ne (ne_of_none e' hp)]
  exact e'
/-- behind something that was not there, or in F: the same without F where F was new -/
theorem Out.less {F G : List Addr} {H0 H H' : Hp} (s : Same H0 H) (h : Out F H H') (n : ∀ x ∈ F, x ∈ G ∨ H0 x = none) : Out G H0 H' := fun c o z e => h c o (fun m => (n c m).elim z (fun q => by rw [q] at e; cases e)) (s c o e)
/-- no tuples in it -/
def Reg (H : Hp) (F : List Addr) : Prop := ∀ x ∈ F, ∃ o, H x = some o ∧ tpb o = false
theorem Out.keep {F : List Addr} {H H' : Hp} (h : Out F H H') (r : Reg H F) : Keep H H' := ⟨fun b u t e => h b u (fun m => by
  obtain ⟨o, e1, e2⟩ := r b m
  rw [e] at e1
  cases e1
  rw [t] at e2
  cases e2) e⟩
end AL

/-! ### len of an object with an own __len__; o.m(e, .., k = v) -/
namespace RP
open PySem PySem.Spec PyProof.Rows L2 HX RZ
section
variable {X : Cx} {CX : CXT} {k n : Nat} {f C : Addr} {fd : FuncData} {ps ks : List Str} {sp : Sp} {E : XK}
theorem cr_lenOwn (F : FnOk X.prog X.w X.K X.mg X.base CX k f fd ps sp) (hr : Room (k + 1) X.A) (hm : Meth X.K C "__len__" f) (hb : Binds X.K fd ps []) (hx : Passes CX X E) :
    CallR X (.builtin "len") (fun xs H Q => ∃ a dx fs, xs = [.ref a] ∧ H a = some (.ins C dx fs) ∧ sp [.ref a] H (fun v H' => ∃ n : Nat, v = .int n ∧ n ≤ sizeLine ∧ Q (.int n) H') E) := by
  intro pins s σ H xs us Q I r h
  obtain ⟨a, dx, fs, rfl, ha, h⟩ := h
  obtain ⟨u, rfl, ru⟩ := vals1 r
  obtain rfl : u = Value.ref a := ru
  obtain ⟨mA, J, _⟩ := ins_get I.hok ha
  obtain ⟨od, J, _⟩ := J.look
  refine Calls.call_function_entry kind_len plain_len entry_len (args_len1 _) ?_
  unfold Builtin.«len»
  refine wpAny_bind (m := oneArg "len" _) (wpAny_pure ?_)
  refine wpAny_bind (m := callSpecial? (.ref a) (PySem.Str.ofString "__len__")) (PySem.W.special_fn I.kIn J hm.at_ (eq_of_beq hm.fn) ?_)
  have hl := F.len _ _ _ _ h
  have r2 : Vals [V.ref a] [Value.ref a] := .cons rfl .nil
  have e0 : Env0 X.prog X.w X.K X.mg X.base X.A.in1 X.stack s H := by
    have e := I.env0
    exact ⟨e.frames, e.mod, e.bs, e.bsz, e.funs, e.frf, e.hok, e.bare⟩
  refine wpAny_call (codeAny_mono (F.run X.A.in1 X.stack s H ⟨[.ref a], []⟩ [.ref a] [.ref a] _ E hr.in1 e0 (by
    have := hb s [.ref a] I.kIn (by simpa using hl)
    simpa using this) r2 h) fun r s' hq => ?_)
  cases r with
  | error e => exact hx pins σ H s e s' I hq
  | ok fl =>
    cases fl with
    | ret w =>
      obtain ⟨z, H', I', rz, n, ez, hn, q⟩ := I.after hq
      subst ez
      obtain ⟨t, rfl⟩ := rz
      have hs : sizeLine = 16777216 := sizeLine_eq
      refine wpAny_bind (wpAny_holding (wpAny_pure ?_))
      refine wpAny_bind (wpAny_letGo ?_)
      show wpAny _ _ (if ((n : Nat) : Int) < 0 then _ else _) _ _ _
      rw [if_neg (by omega)]
      show wpAny _ _ (if ((n : Nat) : Int) ≥ 2 ^ 63 then _ else _) _ _ _
      rw [if_neg (by omega)]
      exact wpAny_bind (wpAny_mkInt (wpAny_pure ⟨_, rfl, .int n, H', I'.tok _, ⟨_, rfl⟩, q⟩))
    | next => exact False.elim hq
    | brk => exact False.elim hq
    | cont => exact False.elim hq
variable {m : Str} {apos pos : Pos} {e o : Expr} {es : List Expr} {kws : List Keyword} {ta : TE} {t tk : TA} {g : List Value → List Value → List Value} {gV : List V → List V → List V}
def tMethN (C : Addr) (m : Str) (n l : Nat) (sp : Sp) (gV : List V → List V → List V) (E : XK) (ta : TE) (t tk : TA) : TE := fun σ H Q => ta σ H fun x H1 => ∃ a dx fs, x = .ref a ∧ H1 a = some (.ins C dx fs) ∧ fs.lookup m = none ∧
  t σ H1 fun vs H2 => tk σ H2 fun zs H3 => vs.length = n ∧ zs.length = l ∧ sp (gV (x :: vs) zs) H3 Q E
theorem pe_methN {pl : Sem Bool} (he : PE X o ta) (c : Cls X.K C) (hm : Meth X.K C m f) (F : FnOk X.prog X.w X.K X.mg X.base CX k f fd ps sp) (hr : Room k X.A) (hb : KBn X.K fd ps (n + 1) ks g gV) (hx : Passes CX X E) (ha : PA X (e :: es) t) (hkw : PK X kws tk)
    (hall : (backToKw pos (keywordEach kws X.env)).all (·.1.isSome) = true := by rfl) (hks : (backToKw pos (keywordEach kws X.env)).filterMap (·.1) = ks := by rfl)
    (hst : starEach (e :: es) X.env = (false, eval e X.env) :: starEach es X.env := by rfl)
    (hpl : ((backTo pos (starEach (e :: es) X.env)).any (·.1) || (backToKw pos (keywordEach kws X.env)).any (·.1.isNone)) = false := by rfl)
    (ht : eval (.Call (.Attribute o m apos) (e :: es) kws pos) X.env = (do
      let ov ← eval o X.env
      standAt apos.atName
      let (f, first) ← holding [ov] (getMethod ov m pl)
      callWith pos f first (backTo pos (starEach (e :: es) X.env)) (backToKw pos (keywordEach kws X.env))) := by rfl) :
    PE X (.Call (.Attribute o m apos) (e :: es) kws pos) (tMethN C m n ks.length sp gV E ta t tk) := by
  refine ⟨fun pins s σ H Q I h => ?_⟩
  refine PySem.W.methodCall_KW (pl := pl) (thn (he.run pins s σ H _ I h) fun u s1 ⟨x, H1, I1, rx, a, dx, fs, ex, ea, l, q⟩ => ?_) ht
  subst ex
  obtain rfl : u = Value.ref a := rx
  refine getmeth_ok I1 ea c hm l ?_
  refine PySem.W.callWith_KW (first := [.ref a]) (h₀ := X.base) I.ok.mod.kin hm.kp hall (thn (ha.run pos pins s1 σ H1 _ I1 q) fun us s2 ⟨vs, H2, I2, r, q⟩ => ?_) hpl hst
  refine thn (hkw.run pos pins s2 σ H2 _ I2 q) fun ws s3 ⟨zs, H3, I3, rz, l1, l2, q3⟩ => ⟨I3.kIn, ?_⟩
  rw [hks]
  exact run_fnN (us := .ref a :: us) (vs := .ref a :: vs) F hr hb hx I3 (.cons rfl r) rz (by rw [List.length_cons, l1]) l2 q3
end
end RP
/-! ### sorted(d), d a dict with whole numbers as keys -/
namespace HS
open PySem PySem.Spec PyProof.Rows L2 HX
section
variable {X : Cx}
def rSortDV : List V → Hp → VK → Prop := fun vs H Q => ∃ (a : Addr) (ks : List (Int × V)), vs = [.ref a] ∧ H a = some (.dK (ks.map entV)) ∧
  ∀ (H' : Hp) (l : Addr) (zs : List Int), Same H H' → H l = none → zs.Perm (ks.map (·.1)) → zs.Pairwise (· ≤ ·) → H' l = some (.lst (zs.map V.int)) → Q (.ref l) H'
theorem cr_sortedDV (hc : X.calm = true) : CallR X (.builtin "sorted") rSortDV := by
  intro pins s σ H xs us Q I r h
  obtain ⟨a, ks, rfl, ha, q⟩ := h
  obtain rfl := Vals.ref1 r
  obtain ⟨z, hsys, vs, rel, dof⟩ := dk_of I.hok ha
  obtain ⟨ep, dat⟩ := dof.dictAt
  rw [List.length_map] at z
  have l1 : (ks.map entV).length = vs.length := Paired.length rel
  rw [List.length_map] at l1
  have hs : sizeLine = 16777216 := sizeLine_eq
  refine Calls.call_function_entry kind_sorted plain_sorted entry_sorted (args_sorted1 _) ?_
  unfold Builtin.«sorted»
  refine wpAny_bind (m := checkCount "sorted" 1 1 _) (wpAny_pure ?_)
  refine wpAny_bind (PySem.W.kdu_collect (A := X.A.in1) (PySem.W.kdl_dict (knd := mixKind X.prog X.w) (kvs := vs) (ep := ep) hsys) (I.ok.hd hc) dat (by omega) fun h' tk acc hk hacc => ?_)
  have hl : acc.toList.length = vs.length := by rw [Array.length_toList]; exact hacc.1
  have at_ : ∀ (j : Nat) (v : Value), acc.toList[j]? = some v → ∃ e t, ks[j]? = some e ∧ v = Value.int e.1 t := by
    intro j v hj
    obtain ⟨k, x, h1, h2⟩ := hacc.2 j v (by rw [← Array.getElem?_toList]; exact hj)
    obtain ⟨e, h4, h5, h6⟩ := kv_atV rel j _ h1
    rcases keyIs_shape h2 with ⟨i, t, e1, e2⟩ | ⟨i, t, e1, e2⟩
    · rw [show k = Sum.inl e.1 from h5] at e1
      cases e1
      exact ⟨e, t, h4, e2⟩
    · rw [show k = Sum.inl e.1 from h5] at e1
      cases e1
  have hi0 := SrtO.ints_iv (vs := acc.toList) fun v hv => by
    obtain ⟨j, hj⟩ := List.mem_iff_getElem?.mp hv
    obtain ⟨e, t, _, e2⟩ := at_ j v hj
    exact ⟨_, _, e2⟩
  have eiv : acc.toList.map SrtO.iv = ks.map (·.1) := by
    refine List.ext_getElem? fun j => ?_
    rw [List.getElem?_map, List.getElem?_map]
    cases hv : acc.toList[j]? with
    | none =>
      have : ks[j]? = none := List.getElem?_eq_none (by rw [l1, ← hl]; exact List.getElem?_eq_none_iff.mp hv)
      rw [this]
      rfl
    | some v =>
      obtain ⟨e, t, h4, e2⟩ := at_ j v hv
      rw [h4, e2]
      rfl
  rw [eiv] at hi0
  refine wpAny_bind (wpAny_newList ?_ (by rw [hl]; omega))
  have hoL : (h'.push { cls := .type "list", data := .seq acc.toList.toArray }).get? h'.objs.size = some (seqObj "list" acc.toList.toArray 0) := Heap.get?_push_size _ rfl
  refine wpAny_bind (wpAny_holding (wpAny_call_entry slot_list_sort ⟨_, hoL, rfl⟩ entry_list_sort (SrtO.list_sort_ord SrtO.swo_int hoL (by rw [hl]; omega) (fun h2 => SrtO.ints_sortable hi0 h2) fun out h1 h2 => ⟨_, rfl, ?_⟩) (args_list_sort _)))
  obtain ⟨k1, k2, k3⟩ := SrtO.ints_out hi0 h1 h2
  obtain ⟨e2, he'⟩ := PyProof.Rows.sortedHeap_at (vs := acc.toList) (out := out.toArray) hoL
  have hlen : ((out.map SrtO.iv).map V.int).length ≤ sizeLine := by
    rw [List.length_map, k2.length_eq, List.length_map]
    omega
  have J : L2.Inv X pins σ H { s with heap := h', toks := tk } := I.kept (t' := tk) hk
  have old : ∀ b u, h'.get? b = some u → (PyProof.Rows.sortedHeap (h'.push { cls := .type "list", data := .seq acc.toList.toArray }) h'.objs.size acc.toList out.toArray).get? b = some u := fun b u e => by
    have lt : b < h'.objs.size := Heap.lt_size e
    rw [PyProof.Rows.sortedHeap_old (Nat.ne_of_lt lt) (by rw [Heap.size_push]; exact Nat.lt_succ_of_lt lt)]
    exact Heap.get?_push_of_some _ e
  exact wpAny_pure ⟨_, rfl, .ref _, upd H h'.objs.size (.lst ((out.map SrtO.iv).map V.int)), J.laid (t' := tk) old (Nat.le_refl _) ⟨hlen, out, e2, vals_of_ints k1, he'⟩, rfl, q _ _ _ (same_new (J.hok.fresh (Nat.le_refl _))) (J.hok.fresh (Nat.le_refl _)) k2 k3 upd_same⟩
end
end HS

/-! ### x in t, t a tuple of data; sorted(t), t a tuple of rows (whole number, any thing) -/
namespace L2
open PySem PySem.Spec PyProof.Rows
section
variable {X : Cx}
def rInDT (K : PySem.W.Frag) : R2 := fun x y H Q => ∃ d ds, Dp K H x d ∧ Dp K H y (.tuple ds) ∧ SeqAt.shaped d = true ∧ SeqAt.shaped (.list ds) = true ∧ Q (.bl (ds.any fun z => PyData.eqv z d)) H
theorem op_inDT (hu : X.A.units + 65 < cLine) : OpR X (compareOp .In) (rInDT X.K) := by
  intro pins s σ H x y v u Q I rx ry h
  obtain ⟨d, ds, hd, he, sd, se, q⟩ := h
  obtain ⟨as, r1⟩ := Dp.reads I d x v hd rx
  obtain ⟨bs, r2⟩ := Dp.reads I (.tuple ds) y u he ry
  exact SeqAt.in_tuple_reads r2 r1 (SeqAt.canLay_of_shaped se) (SeqAt.canLay_of_shaped sd) (room_in_shaped sd hu) ⟨.bl _, H, I, rfl, q⟩
theorem inDTK (K : PySem.W.Frag) (hu : X.A.units + 65 < cLine) (h : X.K = K := by rfl) : OpR X (compareOp .In) (rInDT K) := h ▸ op_inDT hu
end
end L2
namespace HS
open PySem PySem.Spec PyProof.Rows L2
section
variable {X : Cx}
def rSortRowT (K : PySem.W.Frag) : List V → Hp → VK → Prop := fun vs H Q => ∃ (a : Addr) (ps : List (Addr × Int × V)), vs = [.ref a] ∧ SqT K H a (ps.map fun z => V.ref z.1) ∧ (∀ z ∈ ps, H z.1 = some (.tup [.int z.2.1, z.2.2])) ∧ (ps.map fun z => z.2.1).Nodup ∧
  ∀ (H' : Hp) (l : Addr) (qs : List (Addr × Int × V)), (∀ b o, H b = some o → H' b = some o) → H l = none → qs.Perm ps → qs.Pairwise (fun e f => e.2.1 < f.2.1) → H' l = some (.lst (qs.map fun z => V.ref z.1)) → Q (.ref l) H'
theorem cr_sortedRowT : CallR X (.builtin "sorted") (rSortRowT X.K) := by
  intro pins s σ H vs us Q I r h
  obtain ⟨a, ps, rfl, hs, hx, nd, q⟩ := h
  obtain ⟨its, rv, ⟨o, ho, hc, n, hd⟩, hz⟩ := I.tuple hs
  rw [Vals.ref1 r]
  have ei := refs_vals rv
  have hlen := rv.length
  have ent : ∀ z ∈ ps, IsEnt s.heap (.ref z.1) z.2.1 ∧ kfI s.heap (.ref z.1) = z.2.1 := fun z hz => by
    obtain ⟨_, its2, r2, o, ho, hc, n, hd⟩ := I.hok _ _ (hx z hz)
    obtain ⟨u1, u2, rfl, ri, rj⟩ := vals2 r2
    obtain ⟨t1, rfl⟩ := ri
    exact ⟨⟨z.1, o, t1, u2, n, rfl, ho, hc, hd⟩, kfI_of ho hd⟩
  have inj : ∀ v ∈ its, ∀ u ∈ its, kfI s.heap v = kfI s.heap u → v = u := by
    intro v hv u hu hvu
    rw [ei] at hv hu
    obtain ⟨z, hz, rfl⟩ := List.mem_map.mp hv
    obtain ⟨y, hy, rfl⟩ := List.mem_map.mp hu
    rw [(ent z hz).2, (ent y hy).2] at hvu
    obtain ⟨i, hi⟩ := List.mem_iff_getElem?.mp hz
    obtain ⟨j, hj⟩ := List.mem_iff_getElem?.mp hy
    have e1 : (ps.map fun z => z.2.1)[i]? = some z.2.1 := by rw [List.getElem?_map, hi]; rfl
    have e2 : (ps.map fun z => z.2.1)[j]? = some z.2.1 := by rw [List.getElem?_map, hj, hvu]; rfl
    have eij : i = j := (List.getElem?_inj (List.getElem?_eq_some_iff.mp e1).1 nd).mp (e1.trans e2.symm)
    subst eij
    rw [hi] at hj
    cases hj
    rfl
  have small : its.toArray.toList.length ≤ sizeLine := by
    show its.length ≤ sizeLine
    omega
  apply Calls.call_function_entry kind_sorted plain_sorted entry_sorted (args_sorted1 _)
  unfold Builtin.«sorted»
  apply wpAny_bind (m := checkCount "sorted" 1 1 _)
  apply wpAny_pure
  apply wpAny_bind
  apply collect_t a ho hc hd (by rw [List.size_toArray]; omega)
  intro h1 k1 big
  apply wpAny_bind
  apply wpAny_newList _ small
  have new : (h1.push (seqObj "list" its.toArray 0)).get? h1.objs.size = some (seqObj "list" its.toArray 0) := Heap.get?_push_size _ rfl
  have keep : ∀ b o, s.heap.get? b = some o → b ≠ h1.objs.size ∧ (h1.push (seqObj "list" its.toArray 0)).get? b = some o := fun b o e => ⟨Nat.ne_of_lt (Nat.lt_of_lt_of_le (Heap.lt_size e) big), Heap.get?_push_of_some _ (k1 b o e)⟩
  generalize h1.push (seqObj "list" its.toArray 0) = h2 at new keep
  apply wpAny_bind
  apply wpAny_holding
  refine wpAny_call_entry slot_list_sort ⟨_, new, rfl⟩ entry_list_sort (SrtO.list_sort_ord (swo_int (kfI s.heap)) new (by omega) (fun g => ?_) fun out o1 o2 => ⟨_, rfl, ?_⟩) (args_list_sort _)
  · refine ents_sortable (s := { s with heap := h2 }) (by omega) (fun v hv => ?_) inj fun o e => ?_
    · rw [ei] at hv
      obtain ⟨z, hz, rfl⟩ := List.mem_map.mp hv
      obtain ⟨⟨b, o, t, u, n, e, ho, hc, hd⟩, e2⟩ := ent z hz
      rw [e2]
      exact ⟨b, o, t, u, n, e, (keep b o ho).2, hc, hd⟩
    · have e' : some o = some (seqObj "list" its.toArray 0) := e.symm.trans new
      cases e'
      intro c
      exact absurd (Value.type.inj c) (by decide)
  · obtain ⟨ep, he'⟩ := PyProof.Rows.sortedHeap_at (vs := its) (out := out.toArray) new
    obtain ⟨zs, pz, ez⟩ := perm_lift (fun z : Addr × Int × V => Value.ref z.1) o2.perm ps ei.symm
    have rvo : Vals (zs.map fun z => V.ref z.1) out := by
      rw [← ez]
      exact vals_maps (fun z : Addr × Int × V => V.ref z.1) (fun z => Value.ref z.1) zs fun _ _ => rfl
    have hl9 : (zs.map fun z => V.ref z.1).length ≤ sizeLine := by
      have e := pz.length_eq
      rw [List.length_map] at hz ⊢
      omega
    have hsort : zs.Pairwise (fun e f => e.2.1 < f.2.1) := by
      have le : zs.Pairwise (fun e f => e.2.1 ≤ f.2.1) := by
        have o1' : out.Pairwise (fun v u => decide (kfI s.heap u < kfI s.heap v) = false) := o1
        rw [← ez, List.pairwise_map] at o1'
        refine List.Pairwise.imp_of_mem (fun {x y} hx hy h => ?_) o1'
        have h2 := of_decide_eq_false h
        rw [(ent x (pz.mem_iff.mp hx)).2, (ent y (pz.mem_iff.mp hy)).2] at h2
        omega
      have ne : zs.Pairwise (fun e f => e.2.1 ≠ f.2.1) := by
        have n1 : (zs.map fun z => z.2.1).Nodup := (pz.map fun z => z.2.1).nodup_iff.mpr nd
        exact List.pairwise_map.mp n1
      exact List.Pairwise.imp (fun {x y} h => by have := h.1; have := h.2; omega) (List.Pairwise.and le ne)
    refine wpAny_pure ⟨_, rfl, .ref _, upd H h1.objs.size (.lst (zs.map fun z => V.ref z.1)), I.laid (t' := s.toks) (fun b o e => ?_) big ⟨hl9, out, ep, rvo, he'⟩, rfl, ?_⟩
    · exact (PyProof.Rows.sortedHeap_old (keep b o e).1 (Heap.lt_size (keep b o e).2)).trans (keep b o e).2
    · exact q _ _ zs (HX.same_new (I.hok.fresh big)) (I.hok.fresh big) pz hsort upd_same
end
end HS

/-! ### len(set(t)), t a tuple of unlike ints -/
namespace RP
open PySem PySem.Spec PyProof.Rows L2 HX RZ
theorem perm_len {xs ys : List Int} (n1 : xs.Nodup) (n2 : ys.Nodup) (h : ∀ x, x ∈ xs ↔ x ∈ ys) : xs.length = ys.length :=
  Nat.le_antisymm (List.Nodup.length_le_of_subset n1 fun x hx => (h x).mp hx) (List.Nodup.length_le_of_subset n2 fun x hx => (h x).mpr hx)
def tLenSetT (K : PySem.W.Frag) (ta : TE) : TE := fun σ H Q => ta σ H fun x H1 => ∃ (l : Addr) (ns : List Int), x = .ref l ∧ SqT K H1 l (ns.map V.int) ∧ ns.Nodup ∧ ns.length ≤ 4000 ∧ Q (.int (ns.length : Nat)) H1
theorem pe_lenSetT {X : Cx} {a : Expr} {ta : TE} {p p2 q pos : Pos} (hg : Gl X "len") (hm : X.mg "len" = none) (hg2 : Gl X "set") (hm2 : X.mg "set" = none) (ha : PE X a ta) (hc : X.calm = true := by rfl)
    (na : starEach [a] X.env = (false, eval a X.env) :: starEach [] X.env := by rfl) : PE X (.Call (.Name "len" p) [.Call (.Name "set" p2) [a] [] q] [] pos) (tLenSetT X.K ta) := by
  refine ⟨fun pins s σ H Q I h => ?_⟩
  refine Call_ (ld_blt I hg hm boot_len ?_)
  refine PyProof.Rows.callWith_builtin1 (PyProof.Rows.args_cons ?_ rfl) rfl rfl
  refine Call_ (ld_blt I hg2 hm2 boot_set ?_)
  refine PyProof.Rows.callWith_type1 (PyProof.Rows.args_cons (thn (ha.run pins s σ H _ I h) fun v s1 ⟨x, H1, I1, r1, q1⟩ => PyProof.Rows.args_nil ?_) na) na rfl
  obtain ⟨l, ns, rfl, hq, hnd, hl, q1⟩ := q1
  cases r1
  obtain ⟨its, r, pl, hz⟩ := I1.tuple hq
  have hlen : its.toArray.size = ns.length := by rw [List.size_toArray, ← r.length, List.length_map]
  refine call_set_tupI ns (I1.ok.hd hc) pl (by simpa using intsAre_vals r) (by unfold scanBound; omega) fun h' tk c hS hc' hk => ?_
  refine PyProof.Rows.args_nil ?_
  obtain ⟨o, es, ep, t, ho, hex, hd, _, nk, hmem, hf1, hf, hn, _, _⟩ := hS
  have en : es.size = ns.length := by
    have z := perm_len nk hnd fun x => by rw [← hmem x, decide_eq_true_eq]
    rw [List.length_map] at z
    rw [← z, Array.length_toList]
  have I2 : Inv X pins σ H1 { s1 with heap := h', toks := tk } := I1.kept fun b o e => hk b o e
  exact call_len_set ho hex hd hf (by rw [en]; omega) ⟨.int ns.length, H1, I2.tok _, ⟨_, by rw [en]⟩, q1⟩
end RP

/-! ### == and != of objects with an own __eq__; such in a list; bool of one with an own __len__ -/
namespace OQ
open PySem PySem.Spec PyProof.Rows L2 HX RZ
section
variable {X : Cx} {CX : CXT} {k : Nat} {f C : Addr} {fd : FuncData} {ps : List Str} {sp : Sp} {E : XK}
theorem not_first {K : PySem.W.Frag} : PySem.W.notFirst K C (.ref C) = true := by
  unfold PySem.W.notFirst
  simp
/-- the own def called, under any room -/
theorem own_call (F : FnOk X.prog X.w X.K X.mg X.base CX k f fd ps sp) (hb : Binds X.K fd ps []) (hx : Passes CX X E) {pins : List (Addr × Obj)} {σ : L2.St} {H : Hp} {s : Shared} (I : Inv X pins σ H s) {A : Around} (hr : Room k A) (e0 : Env0 X.prog X.w X.K X.mg X.base A X.stack s H) {vs : List V} {us : List Value} (r : Vals vs us) {Q : VK} (h : sp vs H Q E) :
    codeAny (model X.prog X.w) A (.call (.ref f) ⟨us, []⟩) (fun r s' => match r with | .ok (.ret v) => EP X pins σ Q v s' | .ok _ => False | .error e => X.xe e s') s := by
  have hl := F.len _ _ _ _ h
  have hlu : us.length = ps.length := by rw [← hl]; exact r.length.symm
  refine codeAny_mono (F.run A X.stack s H ⟨us, []⟩ us vs Q E hr e0 (by
    have := hb s us I.kIn (by simpa using hlu)
    simpa using this) r h) fun z s' hq => ?_
  cases z with
  | error e => exact hx pins σ H s e s' I hq
  | ok fl =>
    cases fl with
    | ret u => exact I.after hq
    | next => exact False.elim hq
    | brk => exact False.elim hq
    | cont => exact False.elim hq
/-- what is wished of x == y: the own def's answer, a truth -/
def rEqO (C : Addr) (sp : Sp) (E : XK) : R2 := fun x y H Q => ∃ a b dx dy fs gs, x = .ref a ∧ y = .ref b ∧ H a = some (.ins C dx fs) ∧ H b = some (.ins C dy gs) ∧ sp [x, y] H (fun v H' => ∃ r, v = .bl r ∧ Q (.bl r) H') E
theorem rich_eq {A : Around} (F : FnOk X.prog X.w X.K X.mg X.base CX k f fd ps sp) (hr : Room k A) {H : Hp} {s : Shared} (e0 : Env0 X.prog X.w X.K X.mg X.base A X.stack s H) (hm : Meth X.K C "__eq__" f) (hb : Binds X.K fd ps []) (hx : Passes CX X E) {pins : List (Addr × Obj)} {σ : L2.St} (I : Inv X pins σ H s) {a b dx dy : Addr} {fs gs : List (Str × V)} (ha : H a = some (.ins C dx fs)) (hb' : H b = some (.ins C dy gs)) {Q : Bool → Hp → Prop} (q : sp [.ref a, .ref b] H (fun v H' => ∃ r, v = .bl r ∧ Q r H') E) :
    wpAny (model X.prog X.w) A (richCompare .Eq (.ref a) (.ref b)) (fun v s' => ∃ r H', v = .bool r ∧ Inv X pins σ H' s' ∧ Q r H') X.xe s := by
  obtain ⟨mA, J, _⟩ := ins_get I.hok ha
  obtain ⟨od, J, _⟩ := J.look
  obtain ⟨mB, J', _⟩ := ins_get I.hok hb'
  obtain ⟨od', J', _⟩ := J'.look
  obtain ⟨m, hF⟩ := I.fr
  have r2 : Vals [V.ref a, V.ref b] [Value.ref a, Value.ref b] := .cons rfl (.cons rfl .nil)
  refine PySem.W.cmp_K (op := .Eq) (tb := .ref C) hr.units0 hF I.ok.mod.kin J J'.type not_first hm.at_ hm.fn ?_
  refine wpAny_mono (wpAny_call (own_call F hb hx I hr e0 r2 q)) (fun w s' z => ?_) fun _ _ x => x
  obtain ⟨z', H', I', rz, r, ez, qz⟩ := z
  subst ez
  cases (show w = Value.bool r from rz)
  exact (⟨r, H', rfl, I', qz⟩ : ∃ r' H', Value.bool r = .bool r' ∧ Inv X pins σ H' s' ∧ Q r' H')
theorem op_eqO (F : FnOk X.prog X.w X.K X.mg X.base CX k f fd ps sp) (hr : Room k X.A) (hm : Meth X.K C "__eq__" f) (hb : Binds X.K fd ps []) (hx : Passes CX X E) : OpR X (compareOp .Eq) (rEqO C sp E) := by
  intro pins s σ H x y v u Q I rx ry h
  obtain ⟨a, b, dx, dy, fs, gs, rfl, rfl, ha, hb', q⟩ := h
  obtain rfl : v = Value.ref a := rx
  obtain rfl : u = Value.ref b := ry
  show wpAny _ _ (richCompare .Eq _ _) _ _ _
  refine wpAny_mono (rich_eq F hr I.env0 hm hb hx I ha hb' q) (fun w s' z => ?_) fun _ _ x => x
  obtain ⟨r, H', ew, I', qz⟩ := z
  exact ⟨V.bl r, H', I', ew, qz⟩
/-- x != y: object's own __ne__, which asks __eq__ and turns the answer -/
def rNeO (C : Addr) (sp : Sp) (E : XK) : R2 := fun x y H Q => ∃ a b dx dy fs gs, x = .ref a ∧ y = .ref b ∧ H a = some (.ins C dx fs) ∧ H b = some (.ins C dy gs) ∧ sp [x, y] H (fun v H' => ∃ r, v = .bl r ∧ Q (.bl (!r)) H') E
theorem bound_ne {M : Model} {A : Around} {E' : Value → Shared → Prop} {K : PySem.W.Frag} {s : Shared} {x : Addr} {ox : Obj} {od : Option Obj} {args : List Value} {Q : Option Value → Shared → Prop} (X : K.In s.heap) (I : PySem.W.InstAt s.heap x ox C od) (hs : PySem.W.findIn K (.ref C) "__ne__" = some (some (.builtin "object.__ne__")))
    (h : wpAny M A (call (.builtin "object.__ne__") (.ref x :: args)) (fun v => Q (some v)) E' s) : wpAny M A (callSpecialIfBound? (.ref x) "__ne__" args) Q E' s := by
  unfold callSpecialIfBound?
  simp only [bindSpecialIfBound?]
  refine wpAny_holding (wpAny_bind (wpAny_bind (wpAny_bind (I.type.here ((PySem.W.looks_findIn X hs).here (wpAny_bind (wpAny_askSetting (wpAny_ite ?_))))))))
  have done : wpAny M A (call (.builtin "object.__ne__") ([.ref x] ++ args) >>= fun v => pure (some v)) Q E' s :=
    wpAny_bind (wpAny_mono h (fun _ _ q => wpAny_pure q) fun _ _ q => q)
  split
  · refine wpAny_bind (wpAny_of_eq (F.cmp_object.ne.bind _) ?_)
    exact wpAny_pure done
  · refine wpAny_tryCatch (wpAny_bind (wpAny_of_eq (F.cmp_object.ne.bind _) ?_))
    exact wpAny_pure done
theorem op_neO (F : FnOk X.prog X.w X.K X.mg X.base CX k f fd ps sp) (hr : Room (k + 1) X.A) (hm : Meth X.K C "__eq__" f) (hn : PySem.W.findIn X.K (.ref C) "__ne__" = some (some (.builtin "object.__ne__"))) (ho : PySem.W.mroIn X.K C (.type "object") = some true) (hb : Binds X.K fd ps []) (hx : Passes CX X E) : OpR X (compareOp .NotEq) (rNeO C sp E) := by
  intro pins s σ H x y v u Q I rx ry h
  obtain ⟨a, b, dx, dy, fs, gs, rfl, rfl, ha, hb', q⟩ := h
  obtain rfl : v = Value.ref a := rx
  obtain rfl : u = Value.ref b := ry
  obtain ⟨mA, J, _⟩ := ins_get I.hok ha
  obtain ⟨od, J, _⟩ := J.look
  obtain ⟨mB, J', _⟩ := ins_get I.hok hb'
  obtain ⟨od', J', _⟩ := J'.look
  have kin := I.kIn
  have r2 : Vals [V.ref a, V.ref b] [Value.ref a, Value.ref b] := .cons rfl (.cons rfl .nil)
  have one : wpAny (model X.prog X.w) X.A (tryCompare (.ref a) "__ne__" (.ref b)) (fun r s' => ∃ t, r = some (Value.bool t) ∧ EP X pins σ Q (Value.bool t) s') X.xe s := by
    unfold tryCompare
    refine wpAny_bind (bound_ne kin J hn ?_)
    refine wpAny_call (codeAny_call_builtin PySem.F.cmp_object.ne.plain PySem.F.cmpEntry_ne (PySem.W.check_slot PySem.F.cmpKind_ne PySem.F.cmpSplit_ne (J.type.andThen (PySem.W.looks_mroIn kin ho)) (PySem.F.cmpArgs_ne _ _) ?_))
    unfold Builtin.«object.__ne__»
    refine wpAny_bind (wpAny_of_eq (a := (Value.ref a, [Value.ref b])) (by first | rfl | (simp only [slotArgs]; rfl)) ?_)
    refine wpAny_bind (wpAny_cRoomFor (show X.A.in1.units < cLine from hr.in1.units0) ?_)
    have e0 : Env0 X.prog X.w X.K X.mg X.base X.A.in1 X.stack s H := by
      have e := I.env0
      exact ⟨e.frames, e.mod, e.bs, e.bsz, e.funs, e.frf, e.hok, e.bare⟩
    refine wpAny_bind (PySem.W.ifBound_K kin J hm.at_ hm.fn (wpAny_mono (wpAny_call (own_call F hb hx I hr.in1 e0 r2 q)) (fun w s' z => ?_) fun _ _ x => x))
    obtain ⟨z', H', I', rz, r, ez, qz⟩ := z
    subst ez
    cases (show w = Value.bool r from rz)
    refine wpAny_bind (wpAny_truthy_bool ?_)
    refine wpAny_pure ?_
    refine wpAny_pure ⟨!r, rfl, V.bl (!r), H', I', rfl, qz⟩
  show wpAny _ _ (richCompare .NotEq _ _) _ _ _
  unfold richCompare
  simp only [oneThing_ref]
  have same : ¬ ((Value.ref C != Value.ref C) = true) := by simp
  refine wpAny_holding (wpAny_bind (wpAny_cRoomFor hr.units0 (wpAny_bind (J.type.here (wpAny_bind (J'.type.here ?_))))))
  rw [if_neg same]
  refine wpAny_bind (wpAny_pure ?_)
  rw [if_neg Bool.false_ne_true]
  refine wpAny_bind (wpAny_mono one (fun r s' z => ?_) fun _ _ e => e)
  obtain ⟨t, rfl, hq⟩ := z
  exact wpAny_pure hq
end
/-! such an object in a list -/
def Lob (h : Heap) (l : Addr) (its : Array Value) : Prop := ∃ (dd : Option Addr) (n : Nat) (sl : Array (Option Value)), h.get? l = some { cls := .type "list", dict := dd, data := .seq its n, slots := sl }
def wlk (prog : Program) (w : World) (A : Around) (l : Addr) (its : Array Value) (x : Value) : List Value → (Bool → Shared → Prop) → (Value → Shared → Prop) → Shared → Prop
  | [], Q, _, s => Q false s
  | y :: ys, Q, E, s => wpAny (model prog w) A.in1 (eqBool y x) (fun b s' => if b = true then Q true s' else Lob s'.heap l its ∧ wlk prog w A l its x ys Q E s') E s
theorem walk_in (prog : Program) (w : World) (l : Addr) (its : Array Value) (x : Value) : ∀ (ys : List Value) (i : Nat), its.toList.drop i = ys →
    MeetsIn prog w (Builtin.«list.__contains__.loop» ⟨[.ref l, x, rawInt i], []⟩) fun A R s => Lob s.heap l its ∧ wlk prog w A l its x ys (fun b s' => R (.ok (.ret (.bool b))) s') (fun e s' => R (.error e) s') s
  | [], i, hi, A, R, s, h => by
    obtain ⟨⟨dd, n, sl, h1⟩, h2⟩ := h
    obtain ⟨hp, g, d, tk, os⟩ := s
    have ge : its.size ≤ i := by
      have z := congrArg List.length hi
      rw [List.length_drop, Array.length_toList, List.length_nil] at z
      omega
    have none_ : its[((i : Nat) : Int).toNat]? = none := by rw [Int.toNat_natCast]; exact Array.getElem?_eq_none ge
    wp_walk using wpAny_loadPart' h1
    rw [none_]
    wp_walk
    exact h2
  | y :: ys, i, hi, A, R, s, h => by
    obtain ⟨⟨dd, n, sl, h1⟩, h2⟩ := h
    obtain ⟨hp, g, d, tk, os⟩ := s
    have lt : i < its.size := by
      have z := congrArg List.length hi
      rw [List.length_drop, Array.length_toList, List.length_cons] at z
      omega
    have split_ : its.toList[i]'(by simpa using lt) = y ∧ its.toList.drop (i + 1) = ys := by
      rw [List.drop_eq_getElem_cons (by simpa using lt)] at hi
      exact ⟨(List.cons.inj hi).1, (List.cons.inj hi).2⟩
    have some_ : its[((i : Nat) : Int).toNat]? = some y := by
      rw [Int.toNat_natCast, Array.getElem?_eq_getElem lt, ← split_.1, Array.getElem_toList]
    wp_walk using wpAny_loadPart' h1
    rw [some_]
    refine wpAny_bind (wpAny_mono h2 (fun b s' q => ?_) fun _ _ e => e)
    cases b with
    | true =>
      have q' : R (.ok (.ret (.bool true))) s' := by rw [if_pos rfl] at q; exact q
      wp_walk
      exact q'
    | false =>
      have q' : Lob s'.heap l its ∧ wlk prog w A l its x ys (fun b s' => R (.ok (.ret (.bool b))) s') (fun e s' => R (.error e) s') s' := by
        rw [if_neg Bool.false_ne_true] at q
        exact q
      have step : ((i : Int) + 1) = ((i + 1 : Nat) : Int) := by omega
      wp_walk
      rw [step]
      refine ⟨plainId_quiet PySem.MeetsSeq.plain_contains_loop _, codeAny_builtin PySem.MeetsSeq.entry_contains_loop ?_⟩
      rw [Around.under_plainId PySem.MeetsSeq.plain_contains_loop _]
      exact walk_in prog w l its x ys (i + 1) split_.2 A R s' q'
theorem contains_in (prog : Program) (w : World) (l : Addr) (its : Array Value) (x : Value) :
    MeetsIn prog w (Builtin.«list.__contains__» ⟨[.ref l, x], []⟩) fun A R s => Lob s.heap l its ∧ wlk prog w A l its x its.toList (fun b s' => R (.ok (.ret (.bool b))) s') (fun e s' => R (.error e) s') s := by
  intro A R s h
  obtain ⟨⟨dd, n, sl, h1⟩, h2⟩ := h
  obtain ⟨hp, g, d, tk, os⟩ := s
  wp_walk using wpAny_loadPart' h1
  refine ⟨plainId_quiet PySem.MeetsSeq.plain_contains_loop _, codeAny_builtin PySem.MeetsSeq.entry_contains_loop ?_⟩
  rw [Around.under_plainId PySem.MeetsSeq.plain_contains_loop _]
  exact walk_in prog w l its x its.toList 0 rfl A R _ ⟨⟨dd, n, sl, h1⟩, h2⟩
section
variable {X : Cx} {CX : CXT} {k : Nat} {f C : Addr} {fd : FuncData} {ps : List Str} {sp : Sp} {E : XK}
/-- what is wished of a walk through the list at p for the object at a -/
def wIn (C : Addr) (sp : Sp) (E : XK) (p : Addr) (all : List V) (a : Addr) : List V → Hp → VK → Prop
  | [], H, Q => Q (.bl false) H
  | y :: ys, H, Q => ∃ b, y = .ref b ∧ (b = a → Q (.bl true) H) ∧ (b ≠ a → ∃ dx dy fs gs, H b = some (.ins C dx fs) ∧ H a = some (.ins C dy gs) ∧ sp [.ref b, .ref a] H (fun v H' => ∃ r, v = .bl r ∧ (r = true → Q (.bl true) H') ∧ (r = false → H' p = some (.lst all) ∧ wIn C sp E p all a ys H' Q)) E)
def rInO (C : Addr) (sp : Sp) (E : XK) : R2 := fun x y H Q => ∃ a p ys, x = .ref a ∧ y = .ref p ∧ H p = some (.lst ys) ∧ (∀ y ∈ ys, ∃ b, y = .ref b) ∧ wIn C sp E p ys a ys H Q
theorem eq_bool {A : Around} (F : FnOk X.prog X.w X.K X.mg X.base CX k f fd ps sp) (hr : Room k A) {H : Hp} {s : Shared} (e0 : Env0 X.prog X.w X.K X.mg X.base A X.stack s H) (hm : Meth X.K C "__eq__" f) (hb : Binds X.K fd ps []) (hx : Passes CX X E) {pins : List (Addr × Obj)} {σ : L2.St} (I : Inv X pins σ H s) {a b : Addr} {Q : Bool → Shared → Prop} (W : Bool → Hp → Prop)
    (h1 : b = a → Q true s) (h2 : b ≠ a → ∃ dx dy fs gs, H b = some (.ins C dx fs) ∧ H a = some (.ins C dy gs) ∧ sp [.ref b, .ref a] H (fun v H' => ∃ r, v = .bl r ∧ W r H') E) (h3 : ∀ r H' s', Inv X pins σ H' s' → W r H' → Q r s') :
    wpAny (model X.prog X.w) A (eqBool (.ref b) (.ref a)) Q X.xe s := by
  unfold eqBool
  refine wpAny_holding (wpAny_ite_split (fun e => ?_) fun e => ?_)
  · have ab : b = a := Value.ref.inj (eq_of_beq e)
    exact wpAny_bind (wpAny_rule (wpAny_pure (h1 ab)))
  · have ab : b ≠ a := fun z => e (by rw [z]; exact beq_self_eq_true _)
    obtain ⟨dx, dy, fs, gs, hB, hA, q⟩ := h2 ab
    refine wpAny_bind (wpAny_mono (rich_eq F hr e0 hm hb hx I hB hA (Q := W) q) (fun w s' z => ?_) fun _ _ x => x)
    obtain ⟨r, H', ew, I', qz⟩ := z
    subst ew
    exact wpAny_truthy_bool (h3 r H' s' I' qz)
theorem vals_refs : ∀ {all : List V} {us its : List Value}, (∀ y ∈ all, ∃ b, y = .ref b) → Vals all its → Vals all us → its = us
  | [], _, _, _, .nil, .nil => rfl
  | y :: all, _, _, h, .cons a as, .cons b bs => by
    obtain ⟨c, rfl⟩ := h y (List.mem_cons_self ..)
    cases (show _ = Value.ref c from a)
    cases (show _ = Value.ref c from b)
    rw [vals_refs (fun z hz => h z (List.mem_cons_of_mem _ hz)) as bs]
theorem list_at {pins : List (Addr × Obj)} {σ : L2.St} {H : Hp} {s : Shared} (I : Inv X pins σ H s) {p : Addr} {all : List V} {us : List Value} (r : Vals all us) (refs : ∀ y ∈ all, ∃ b, y = .ref b) (h : H p = some (.lst all)) : Lob s.heap p us.toArray := by
  obtain ⟨its, r2, pl, _⟩ := I.list (SqL.of h)
  have e : its = us := vals_refs refs r2 r
  obtain ⟨⟨oc, od, dat, sl⟩, n, ho, hc, hd, hs⟩ := pl
  simp only at hc hd hs
  subst hc hd hs
  rw [e] at ho
  exact ⟨none, n, sl, ho⟩
theorem wlk_mono {prog : Program} {w : World} {A : Around} {l : Addr} {its : Array Value} {x : Value} {Q Q' : Bool → Shared → Prop} {E' : Value → Shared → Prop} (hq : ∀ b s, Q b s → Q' b s) : ∀ {ys : List Value} {s : Shared}, wlk prog w A l its x ys Q E' s → wlk prog w A l its x ys Q' E' s
  | [], s, h => hq false s h
  | y :: ys, s, h => wpAny_mono h (fun b s' z => by
      cases b with
      | true =>
        rw [if_pos rfl] at z ⊢
        exact hq true s' z
      | false =>
        rw [if_neg Bool.false_ne_true] at z ⊢
        exact ⟨z.1, wlk_mono hq z.2⟩) fun _ _ e => e
theorem wlk_of (F : FnOk X.prog X.w X.K X.mg X.base CX k f fd ps sp) (hr : Room (k + 1) X.A) (hm : Meth X.K C "__eq__" f) (hb : Binds X.K fd ps []) (hx : Passes CX X E) {pins : List (Addr × Obj)} {σ : L2.St} {a p : Addr} {all : List V} {its : List Value} (ra : Vals all its) (refs : ∀ y ∈ all, ∃ b, y = .ref b) {Q : VK} : ∀ {ys : List V} {us : List Value} {H : Hp} {s : Shared}, Vals ys us → Inv X pins σ H s → wIn C sp E p all a ys H Q → wlk X.prog X.w X.A p its.toArray (.ref a) us (fun b s' => EP X pins σ Q (Value.bool b) s') X.xe s
  | [], _, H, s, .nil, I, h => ⟨V.bl false, H, I, rfl, h⟩
  | y :: ys, u :: us, H, s, .cons r t, I, h => by
    obtain ⟨b, rfl, h1, h2⟩ := h
    cases (show u = Value.ref b from r)
    have e0 : Env0 X.prog X.w X.K X.mg X.base X.A.in1 X.stack s H := by
      have e := I.env0
      exact ⟨e.frames, e.mod, e.bs, e.bsz, e.funs, e.frf, e.hok, e.bare⟩
    refine eq_bool F hr.in1 e0 hm hb hx I (fun r H' => (r = true → Q (.bl true) H') ∧ (r = false → H' p = some (.lst all) ∧ wIn C sp E p all a ys H' Q)) (fun e => ?_) (fun ne => ?_) fun r H' s' I' z => ?_
    · rw [if_pos rfl]
      exact ⟨V.bl true, H, I, rfl, h1 e⟩
    · exact h2 ne
    · cases r with
      | true =>
        rw [if_pos rfl]
        exact ⟨V.bl true, H', I', rfl, z.1 rfl⟩
      | false =>
        rw [if_neg Bool.false_ne_true]
        obtain ⟨hp, z⟩ := z.2 rfl
        exact ⟨list_at I' ra refs hp, wlk_of F hr hm hb hx ra refs t I' z⟩
theorem op_inO (F : FnOk X.prog X.w X.K X.mg X.base CX k f fd ps sp) (hr : Room (k + 1) X.A) (hm : Meth X.K C "__eq__" f) (hb : Binds X.K fd ps []) (hx : Passes CX X E) : OpR X (compareOp .In) (rInO C sp E) := by
  intro pins s σ H x y v u Q I rx ry h
  obtain ⟨a, p, ys, rfl, rfl, hp, refs, q⟩ := h
  obtain rfl : v = Value.ref a := rx
  obtain rfl : u = Value.ref p := ry
  obtain ⟨its, ra, pl, _⟩ := I.list (SqL.of hp)
  have lo := list_at I ra refs hp
  obtain ⟨dd, n, sl, hl⟩ := id lo
  show wpAny _ _ (do return Value.bool (← contains (.ref p) (.ref a))) _ _ _
  refine wpAny_bind (wpAny_contains_slot (T := "list") ⟨_, hl, rfl⟩ PySem.F.slot_list_contains (wpAny_mono (call_meetsIn PySem.F.slot_list_contains ⟨_, hl, rfl⟩ PySem.F.entry_list_contains (PySem.F.args_list_contains_2 _ _) (contains_in X.prog X.w p its.toArray (.ref a)) (Q := fun v s' => ∃ b, v = .bool b ∧ EP X pins σ Q (Value.bool b) s') ?_) (fun v s' z => ?_) fun _ _ e => e))
  · have z := wlk_of F hr hm hb hx ra refs ra I q
    refine ⟨lo, ?_⟩
    have ei : its.toArray.toList = its := by simp
    rw [ei]
    exact wlk_mono (fun b s' e => ⟨b, rfl, e⟩) z
  · obtain ⟨b, rfl, hq⟩ := z
    exact wpAny_truthy_bool (wpAny_pure hq)
end
/-! bool(o), o with an own __len__ -/
section
variable {X : Cx} {CX : CXT} {k : Nat} {f C : Addr} {fd : FuncData} {ps : List Str} {sp : Sp} {E : XK}
theorem truthy_own {A : Around} (F : FnOk X.prog X.w X.K X.mg X.base CX k f fd ps sp) (hr : Room (k + 1) A) {H : Hp} {s : Shared} (e0 : Env0 X.prog X.w X.K X.mg X.base A.in1 X.stack s H) (hm : Meth X.K C "__len__" f) (hn : PySem.W.findIn X.K (.ref C) "__bool__" = some none) (hb : Binds X.K fd ps []) (hx : Passes CX X E) {pins : List (Addr × Obj)} {σ : L2.St} (I : Inv X pins σ H s) {a dx : Addr} {fs : List (Str × V)} (ha : H a = some (.ins C dx fs)) {W : Nat → Hp → Prop} (q : sp [.ref a] H (fun v H' => ∃ n : Nat, v = .int n ∧ n ≤ sizeLine ∧ W n H') E) :
    wpAny (model X.prog X.w) A (truthy (.ref a)) (fun b s' => ∃ (n : Nat) (H' : Hp), b = ((n : Int) != 0) ∧ Inv X pins σ H' s' ∧ W n H') X.xe s := by
  obtain ⟨mA, J, _⟩ := ins_get I.hok ha
  obtain ⟨od, J, _⟩ := J.look
  have kin := I.kIn
  have big : sizeLine = 16777216 := sizeLine_eq
  have r1 : Vals [V.ref a] [Value.ref a] := .cons rfl .nil
  have len : wpAny (model X.prog X.w) A (runValue (.builtin "len" ⟨[.ref a], []⟩)) (fun r s' => ∃ (n : Nat) (t : Tok) (H' : Hp), r = .int n t ∧ Inv X pins σ H' s' ∧ W n H') X.xe s := by
    refine wpAny_runValue (codeAny_builtin entry_len ?_)
    rw [Around.under_plainId plain_len _]
    unfold Builtin.«len»
    refine wpAny_bind (m := oneArg "len" _) (wpAny_pure ?_)
    refine wpAny_bind (m := callSpecial? (.ref a) (PySem.Str.ofString "__len__")) (PySem.W.special_fn kin J hm.at_ (eq_of_beq hm.fn) (wpAny_mono (wpAny_call (own_call F hb hx I hr.in1 e0 r1 q)) (fun r s' z => ?_) fun _ _ e => e))
    obtain ⟨z', H', I', rz, n, ez, hn', qz⟩ := z
    subst ez
    obtain ⟨t, rfl⟩ := rz
    refine wpAny_bind (wpAny_holding (wpAny_pure ?_))
    refine wpAny_bind (wpAny_letGo ?_)
    show wpAny _ _ (if ((n : Nat) : Int) < 0 then _ else _) _ _ _
    rw [if_neg (by omega)]
    show wpAny _ _ (if ((n : Nat) : Int) ≥ 2 ^ 63 then _ else _) _ _ _
    rw [if_neg (by omega)]
    exact wpAny_bind (wpAny_mkInt (wpAny_pure ⟨n, _, H', rfl, I'.tok _, qz⟩))
  unfold truthy
  refine wpAny_bind (m := callSpecial? (.ref a) (PySem.Str.ofString "__bool__")) (wpAny_bind (wpAny_bind (J.type.here ((PySem.W.looks_findIn kin hn).here (wpAny_pure ?_)))))
  refine wpAny_bind (wpAny_bind (J.type.here ((PySem.W.looks_findIn kin hm.at_).here ?_)))
  rw [if_neg (show ¬ ((some (Value.ref f)).isNone = true) from nofun)]
  refine wpAny_bind (wpAny_mono len (fun r s' z => ?_) fun _ _ e => e)
  obtain ⟨n, t, H', rfl, I', w⟩ := z
  exact wpAny_pure ⟨n, H', rfl, I', w⟩
theorem new_bool (F : FnOk X.prog X.w X.K X.mg X.base CX k f fd ps sp) (hr : Room (k + 3) X.A) (hm : Meth X.K C "__len__" f) (hn : PySem.W.findIn X.K (.ref C) "__bool__" = some none) (hb : Binds X.K fd ps []) (hx : Passes CX X E) {pins : List (Addr × Obj)} {σ : L2.St} {H : Hp} {a dx : Addr} {fs : List (Str × V)} (ha : H a = some (.ins C dx fs)) {W : Nat → Hp → Prop} (q : sp [.ref a] H (fun v H' => ∃ n : Nat, v = .int n ∧ n ≤ sizeLine ∧ W n H') E) :
    MeetsIn X.prog X.w (Builtin.«bool.__new__» ⟨[.type "bool", .ref a], []⟩) fun A R s => A = X.A.in1 ∧ Inv X pins σ H s ∧ (∀ (n : Nat) H' s', Inv X pins σ H' s' → W n H' → R (.ok (.ret (.bool ((n : Int) != 0)))) s') ∧ ∀ e s', X.xe e s' → R (.error e) s' := by
  intro A R s h
  obtain ⟨rfl, I, ok, bad⟩ := h
  have e0 : Env0 X.prog X.w X.K X.mg X.base X.A.in1.in1.in1 X.stack s H := by
    have e := I.env0
    exact ⟨e.frames, e.mod, e.bs, e.bsz, e.funs, e.frf, e.hok, e.bare⟩
  have tr := truthy_own F (hr.in1.in1) e0 hm hn hb hx I ha q
  unfold Builtin.«bool.__new__»
  have isb := PySem.F.conv_sub_bool
  obtain ⟨hp, g, d, tk, os⟩ := s
  repeat (any_goals (first | assumption | (with_reducible refine wpAny_mono tr (fun b s' z => ?_) (fun e s' z => ?_)) | wp_step))
  · obtain ⟨n, H', rfl, I', w⟩ := z
    exact ok n H' s' I' w
  · exact bad e s' z
/-- bool(o) -/
theorem cr_boolO (F : FnOk X.prog X.w X.K X.mg X.base CX k f fd ps sp) (hr : Room (k + 3) X.A) (hm : Meth X.K C "__len__" f) (hn : PySem.W.findIn X.K (.ref C) "__bool__" = some none) (hb : Binds X.K fd ps []) (hx : Passes CX X E) :
    CallR X (.type "bool") (fun xs H Q => ∃ a dx fs, xs = [.ref a] ∧ H a = some (.ins C dx fs) ∧ sp [.ref a] H (fun v H' => ∃ n : Nat, v = .int n ∧ n ≤ sizeLine ∧ Q (.bl ((n : Int) != 0)) H') E) := by
  intro pins s σ H xs us Q I r h
  obtain ⟨a, dx, fs, rfl, ha, q⟩ := h
  obtain ⟨u, rfl, ru⟩ := vals1 r
  obtain rfl : u = Value.ref a := ru
  refine callType_newIn PySem.F.called_bool PySem.F.newNe_bool (PySem.F.typeCall_bool_1 _) (PySem.F.newCall_bool_1 _) (fun obj => PySem.F.args_object_init_2 obj _) PySem.F.entry_bool_new (new_bool F hr hm hn hb hx ha (W := fun n H' => Q (.bl ((n : Int) != 0)) H') q (pins := pins) (σ := σ)) ⟨rfl, I, fun n H' s' I' w => ?_, fun e s' z => z⟩
  exact ⟨rfl, V.bl ((n : Int) != 0), H', I', rfl, w⟩
end
end OQ

/-! ### a head that looks at one thing more -/
namespace OQ
open PySem PySem.Spec PyProof.Rows L2 He
def obsE (ex : PySem.W.Frag → Bool) (fa : List Fa) (fn : List DefD) (K : PySem.W.Frag) : AlD := ((obsD fa fn K).1 && ex K, (obsD fa fn K).2)
def obsEG (n : Nat) (ex : PySem.W.Frag → Bool) (fa : List Fa) (fn : List DefD) (g : Addr → Option Obj) : AlD := obsE ex fa fn (frG g (asD g n))
theorem says_both {ex : PySem.W.Frag → Bool} {fa : List Fa} {fn : List DefD} {K : PySem.W.Frag} (e : obsE ex fa fn K = valD fn) : SaysD fa fn K ∧ ex K = true := by
  have h1 := congrArg (fun z : AlD => z.1) e
  have h2 := congrArg (fun z : AlD => z.2) e
  obtain ⟨a, b⟩ := Bool.and_eq_true_iff.mp (show ((obsD fa fn K).1 && ex K) = true from h1)
  exact ⟨Prod.ext a h2, b⟩
def hookE (n : Nat) (ex : PySem.W.Frag → Bool) (fa : List Fa) (fn : List DefD) : PySem.W.Hook where
  α := AlD
  obs := fun s => obsEG n ex fa fn s.heap.get?
  val := fun _ => valD fn
  says := fun _ h => ∃ K : PySem.W.Frag, K.In h ∧ SaysD fa fn K ∧ ex K = true
  of := fun _ _ e => ⟨_, frG_in, says_both e⟩
  keeps := fun _ _ _ ⟨K, hK, c⟩ k => ⟨K, PySem.W.Frag.In.keeps hK k, c⟩
theorem obsEG_eq {n : Nat} {ex : PySem.W.Frag → Bool} {fa : List Fa} {fn : List DefD} {g : Addr → Option Obj} {s : Shared} (h : ∀ a, g a = s.heap.get? a) : obsEG n ex fa fn g = (hookE n ex fa fn).obs s := congrArg (obsEG n ex fa fn) (funext h)
end OQ

namespace K37
open PySem PySem.Spec PyProof.Rows L2 RZ HX
def top (i : Nat) : Stmt := PySem.Challenge.pw_latchgrove_k37_latches_alike.main.body.getD i (.Pass ⟨0, 0, 0, 0⟩)
abbrev s_ring_in : Stmt := top 9
abbrev s_is_whole : Stmt := top 12
abbrev s_is_between : Stmt := top 13
abbrev s_need_hand : Stmt := top 16
abbrev s_need_latch : Stmt := top 17
abbrev s_may_hold : Stmt := top 18
abbrev s_Latches_init : Stmt := inClass (top 19) 0
abbrev s_Latches_take : Stmt := inClass (top 19) 1
abbrev s_Latches_let : Stmt := inClass (top 19) 2
abbrev s_Latches_need_no_wait : Stmt := inClass (top 19) 3
abbrev s_Latches_holders : Stmt := inClass (top 19) 4
abbrev s_Latches_queue : Stmt := inClass (top 19) 5
abbrev s_Latches_held : Stmt := inClass (top 19) 6
abbrev s_Latches_awaited : Stmt := inClass (top 19) 7
abbrev s_Latches_blockers : Stmt := inClass (top 19) 8
abbrev s_Latches_ring : Stmt := inClass (top 19) 9
abbrev s_Latches_state : Stmt := inClass (top 19) 10
abbrev s_Latches_eq : Stmt := inClass (top 19) 12
abbrev s_Latches_len : Stmt := inClass (top 19) 13
abbrev s_law_pot : Stmt := top 21
abbrev s_law_take : Stmt := top 22
abbrev s_law_same : Stmt := top 23
abbrev s_law_unlike : Stmt := top 24
abbrev s_law_named : Stmt := top 25
abbrev s_law_none : Stmt := top 26
abbrev s_law_fits : Stmt := top 27
abbrev s_law_awaits : Stmt := top 28
abbrev s_law_grips : Stmt := top 29
abbrev s_law_taken : Stmt := top 30
abbrev s_law_left : Stmt := top 31
abbrev s_law_move : Stmt := top 32
abbrev s_law_done : Stmt := top 33
abbrev s_law_stands : Stmt := top 34
abbrev s_law_begun : Stmt := top 35
abbrev s_law_straight : Stmt := top 36
abbrev s_law_alike : Stmt := top 37
abbrev s_law : Stmt := top 38
theorem sc_ring_in : FnScope ["nexts", "left", "ends", "row", "after", "one", "others", "other"] ["nexts"] (defScope s_ring_in) := ⟨rfl, rfl, rfl, by decide +kernel, rfl, by decide +kernel, by decide +kernel⟩
theorem sc_is_whole : FnScope ["thing"] ["thing"] (defScope s_is_whole) := ⟨rfl, rfl, rfl, by decide +kernel, rfl, by decide +kernel, by decide +kernel⟩
theorem sc_is_between : FnScope ["thing", "low", "high"] ["thing", "low", "high"] (defScope s_is_between) := ⟨rfl, rfl, rfl, by decide +kernel, rfl, by decide +kernel, by decide +kernel⟩
theorem sc_need_hand : FnScope ["thing"] ["thing"] (defScope s_need_hand) := ⟨rfl, rfl, rfl, by decide +kernel, rfl, by decide +kernel, by decide +kernel⟩
theorem sc_need_latch : FnScope ["thing"] ["thing"] (defScope s_need_latch) := ⟨rfl, rfl, rfl, by decide +kernel, rfl, by decide +kernel, by decide +kernel⟩
theorem sc_may_hold : FnScope ["holders", "alone"] ["holders", "alone"] (defScope s_may_hold) := ⟨rfl, rfl, rfl, by decide +kernel, rfl, by decide +kernel, by decide +kernel⟩
theorem sc_Latches_init : FnScope ["self"] ["self"] (defScope s_Latches_init) := ⟨rfl, rfl, rfl, by decide +kernel, rfl, by decide +kernel, by decide +kernel⟩
theorem sc_Latches_take : FnScope ["self", "hand", "page", "alone", "holders"] ["self", "hand", "page", "alone"] (defScope s_Latches_take) := ⟨rfl, rfl, rfl, by decide +kernel, rfl, by decide +kernel, by decide +kernel⟩
theorem sc_Latches_let : FnScope ["self", "hand", "page", "holders", "line", "given", "other", "alone"] ["self", "hand", "page"] (defScope s_Latches_let) := ⟨rfl, rfl, rfl, by decide +kernel, rfl, by decide +kernel, by decide +kernel⟩
theorem sc_Latches_need_no_wait : FnScope ["self", "hand"] ["self", "hand"] (defScope s_Latches_need_no_wait) := ⟨rfl, rfl, rfl, by decide +kernel, rfl, by decide +kernel, by decide +kernel⟩
theorem sc_Latches_holders : FnScope ["self", "page"] ["self", "page"] (defScope s_Latches_holders) := ⟨rfl, rfl, rfl, by decide +kernel, rfl, by decide +kernel, by decide +kernel⟩
theorem sc_Latches_queue : FnScope ["self", "page"] ["self", "page"] (defScope s_Latches_queue) := ⟨rfl, rfl, rfl, by decide +kernel, rfl, by decide +kernel, by decide +kernel⟩
theorem sc_Latches_held : FnScope ["self", "hand", "page", "hands"] ["self", "hand"] (defScope s_Latches_held) := ⟨rfl, rfl, rfl, by decide +kernel, rfl, by decide +kernel, by decide +kernel⟩
theorem sc_Latches_awaited : FnScope ["self", "hand"] ["self", "hand"] (defScope s_Latches_awaited) := ⟨rfl, rfl, rfl, by decide +kernel, rfl, by decide +kernel, by decide +kernel⟩
theorem sc_Latches_blockers : FnScope ["self", "hand", "page", "line", "at", "alone", "ahead", "one", "sole", "_"] ["self", "hand"] (defScope s_Latches_blockers) := ⟨rfl, rfl, rfl, by decide +kernel, rfl, by decide +kernel, by decide +kernel⟩
theorem sc_Latches_ring : FnScope ["self", "hand"] ["self"] (defScope s_Latches_ring) := ⟨rfl, rfl, rfl, by decide +kernel, rfl, by decide +kernel, by decide +kernel⟩
theorem sc_Latches_state : FnScope ["self", "page"] ["self"] (defScope s_Latches_state) := ⟨rfl, rfl, rfl, by decide +kernel, rfl, by decide +kernel, by decide +kernel⟩
theorem sc_Latches_eq : FnScope ["self", "other"] ["self", "other"] (defScope s_Latches_eq) := ⟨rfl, rfl, rfl, by decide +kernel, rfl, by decide +kernel, by decide +kernel⟩
theorem sc_Latches_len : FnScope ["self", "hands", "hand"] ["self"] (defScope s_Latches_len) := ⟨rfl, rfl, rfl, by decide +kernel, rfl, by decide +kernel, by decide +kernel⟩
theorem sc_law_pot : FnScope ["script", "k", "cell"] ["script", "k"] (defScope s_law_pot) := ⟨rfl, rfl, rfl, by decide +kernel, rfl, by decide +kernel, by decide +kernel⟩
theorem sc_law_take : FnScope ["pot", "many", "found", "one", "other"] ["pot", "many"] (defScope s_law_take) := ⟨rfl, rfl, rfl, by decide +kernel, rfl, by decide +kernel, by decide +kernel⟩
theorem sc_law_same : FnScope ["found", "due", "one", "other"] ["found", "due"] (defScope s_law_same) := ⟨rfl, rfl, rfl, by decide +kernel, rfl, by decide +kernel, by decide +kernel⟩
theorem sc_law_unlike : FnScope ["pot", "many", "most", "left", "found", "k"] ["pot", "many", "most"] (defScope s_law_unlike) := ⟨rfl, rfl, rfl, by decide +kernel, rfl, by decide +kernel, by decide +kernel⟩
theorem sc_law_named : FnScope ["pot", "hands", "pages", "some", "by", "page"] ["pot", "hands", "pages"] (defScope s_law_named) := ⟨rfl, rfl, rfl, by decide +kernel, rfl, by decide +kernel, by decide +kernel⟩
theorem sc_law_none : FnScope [] [] (defScope s_law_none) := ⟨rfl, rfl, rfl, by decide +kernel, rfl, by decide +kernel, by decide +kernel⟩
theorem sc_law_fits : FnScope ["state", "page", "lone", "some", "hand", "sole"] ["state", "page", "lone"] (defScope s_law_fits) := ⟨rfl, rfl, rfl, by decide +kernel, rfl, by decide +kernel, by decide +kernel⟩
theorem sc_law_awaits : FnScope ["state", "hand", "page", "one", "lone"] ["state", "hand"] (defScope s_law_awaits) := ⟨rfl, rfl, rfl, by decide +kernel, rfl, by decide +kernel, by decide +kernel⟩
theorem sc_law_grips : FnScope ["state", "hand", "page", "one", "lone"] ["state", "hand", "page"] (defScope s_law_grips) := ⟨rfl, rfl, rfl, by decide +kernel, rfl, by decide +kernel, by decide +kernel⟩
theorem sc_law_taken : FnScope ["state", "hand", "page", "lone", "line"] ["state", "hand", "page", "lone"] (defScope s_law_taken) := ⟨rfl, rfl, rfl, by decide +kernel, rfl, by decide +kernel, by decide +kernel⟩
theorem sc_law_left : FnScope ["state", "hand", "page", "line", "found", "row"] ["state", "hand", "page"] (defScope s_law_left) := ⟨rfl, rfl, rfl, by decide +kernel, rfl, by decide +kernel, by decide +kernel⟩
theorem sc_law_move : FnScope ["pot", "state", "hands", "pages", "rate", "hand", "free", "own", "others", "page"] ["pot", "state", "hands", "pages", "rate"] (defScope s_law_move) := ⟨rfl, rfl, rfl, by decide +kernel, rfl, by decide +kernel, by decide +kernel⟩
theorem sc_law_done : FnScope ["latches", "state", "move", "word", "hand", "page", "lone", "found"] ["latches", "state", "move"] (defScope s_law_done) := ⟨rfl, rfl, rfl, by decide +kernel, rfl, by decide +kernel, by decide +kernel⟩
theorem sc_law_stands : FnScope ["latches", "state", "hands", "pages", "many", "page", "some", "hand", "due", "one", "lone"] ["latches", "state", "hands", "pages"] (defScope s_law_stands) := ⟨rfl, rfl, rfl, by decide +kernel, rfl, by decide +kernel, by decide +kernel⟩
theorem sc_law_begun : FnScope ["pot", "latches", "hands", "pages", "turns", "rate", "state", "turn", "move"] ["pot", "latches", "hands", "pages", "turns", "rate"] (defScope s_law_begun) := ⟨rfl, rfl, rfl, by decide +kernel, rfl, by decide +kernel, by decide +kernel⟩
theorem sc_law_straight : FnScope ["state", "pages", "other", "page", "hand", "lone"] ["state", "pages"] (defScope s_law_straight) := ⟨rfl, rfl, rfl, by decide +kernel, rfl, by decide +kernel, by decide +kernel⟩
theorem sc_law_alike : FnScope ["one", "other", "due"] ["one", "other", "due"] (defScope s_law_alike) := ⟨rfl, rfl, rfl, by decide +kernel, rfl, by decide +kernel, by decide +kernel⟩
theorem sc_law : FnScope ["script", "k", "pot", "hands", "pages", "latches", "state", "other", "held", "move", "page"] ["script"] (defScope s_law) := ⟨rfl, rfl, rfl, by decide +kernel, rfl, by decide +kernel, by decide +kernel⟩
/-- what the top has written -/
structure TX (K : PySem.W.Frag) (mg : Str → Option Value) where
  fd_ring_in : FuncData
  F_ring_in : FunD K "ring_in" "ring_in" (defArgs s_ring_in) (defBody s_ring_in) (defScope s_ring_in) [] [] (He.ga K "ring_in") fd_ring_in
  g_ring_in : mg "ring_in" = some (.ref (He.ga K "ring_in"))
  fd_is_whole : FuncData
  F_is_whole : FunD K "is_whole" "is_whole" (defArgs s_is_whole) (defBody s_is_whole) (defScope s_is_whole) [] [] (He.ga K "is_whole") fd_is_whole
  g_is_whole : mg "is_whole" = some (.ref (He.ga K "is_whole"))
  fd_is_between : FuncData
  F_is_between : FunD K "is_between" "is_between" (defArgs s_is_between) (defBody s_is_between) (defScope s_is_between) [] [] (He.ga K "is_between") fd_is_between
  g_is_between : mg "is_between" = some (.ref (He.ga K "is_between"))
  fd_need_hand : FuncData
  F_need_hand : FunD K "need_hand" "need_hand" (defArgs s_need_hand) (defBody s_need_hand) (defScope s_need_hand) [] [] (He.ga K "need_hand") fd_need_hand
  g_need_hand : mg "need_hand" = some (.ref (He.ga K "need_hand"))
  fd_need_latch : FuncData
  F_need_latch : FunD K "need_latch" "need_latch" (defArgs s_need_latch) (defBody s_need_latch) (defScope s_need_latch) [] [] (He.ga K "need_latch") fd_need_latch
  g_need_latch : mg "need_latch" = some (.ref (He.ga K "need_latch"))
  fd_may_hold : FuncData
  F_may_hold : FunD K "may_hold" "may_hold" (defArgs s_may_hold) (defBody s_may_hold) (defScope s_may_hold) [] [] (He.ga K "may_hold") fd_may_hold
  g_may_hold : mg "may_hold" = some (.ref (He.ga K "may_hold"))
  fd_Latches_init : FuncData
  F_Latches_init : FunD K "__init__" "Latches.__init__" (defArgs s_Latches_init) (defBody s_Latches_init) (defScope s_Latches_init) [] [] (He.ma K (He.ga K "Latches") "__init__") fd_Latches_init
  fd_Latches_take : FuncData
  F_Latches_take : FunD K "take" "Latches.take" (defArgs s_Latches_take) (defBody s_Latches_take) (defScope s_Latches_take) [] [("alone", (V.bl false))] (He.ma K (He.ga K "Latches") "take") fd_Latches_take
  m_Latches_take : Meth K (He.ga K "Latches") "take" (He.ma K (He.ga K "Latches") "take")
  fd_Latches_let : FuncData
  F_Latches_let : FunD K "let" "Latches.let" (defArgs s_Latches_let) (defBody s_Latches_let) (defScope s_Latches_let) [] [] (He.ma K (He.ga K "Latches") "let") fd_Latches_let
  m_Latches_let : Meth K (He.ga K "Latches") "let" (He.ma K (He.ga K "Latches") "let")
  fd_Latches_need_no_wait : FuncData
  F_Latches_need_no_wait : FunD K "need_no_wait" "Latches.need_no_wait" (defArgs s_Latches_need_no_wait) (defBody s_Latches_need_no_wait) (defScope s_Latches_need_no_wait) [] [] (He.ma K (He.ga K "Latches") "need_no_wait") fd_Latches_need_no_wait
  m_Latches_need_no_wait : Meth K (He.ga K "Latches") "need_no_wait" (He.ma K (He.ga K "Latches") "need_no_wait")
  fd_Latches_holders : FuncData
  F_Latches_holders : FunD K "holders" "Latches.holders" (defArgs s_Latches_holders) (defBody s_Latches_holders) (defScope s_Latches_holders) [] [] (He.ma K (He.ga K "Latches") "holders") fd_Latches_holders
  m_Latches_holders : Meth K (He.ga K "Latches") "holders" (He.ma K (He.ga K "Latches") "holders")
  fd_Latches_queue : FuncData
  F_Latches_queue : FunD K "queue" "Latches.queue" (defArgs s_Latches_queue) (defBody s_Latches_queue) (defScope s_Latches_queue) [] [] (He.ma K (He.ga K "Latches") "queue") fd_Latches_queue
  m_Latches_queue : Meth K (He.ga K "Latches") "queue" (He.ma K (He.ga K "Latches") "queue")
  fd_Latches_held : FuncData
  F_Latches_held : FunD K "held" "Latches.held" (defArgs s_Latches_held) (defBody s_Latches_held) (defScope s_Latches_held) [] [] (He.ma K (He.ga K "Latches") "held") fd_Latches_held
  m_Latches_held : Meth K (He.ga K "Latches") "held" (He.ma K (He.ga K "Latches") "held")
  fd_Latches_awaited : FuncData
  F_Latches_awaited : FunD K "awaited" "Latches.awaited" (defArgs s_Latches_awaited) (defBody s_Latches_awaited) (defScope s_Latches_awaited) [] [] (He.ma K (He.ga K "Latches") "awaited") fd_Latches_awaited
  m_Latches_awaited : Meth K (He.ga K "Latches") "awaited" (He.ma K (He.ga K "Latches") "awaited")
  fd_Latches_blockers : FuncData
  F_Latches_blockers : FunD K "blockers" "Latches.blockers" (defArgs s_Latches_blockers) (defBody s_Latches_blockers) (defScope s_Latches_blockers) [] [] (He.ma K (He.ga K "Latches") "blockers") fd_Latches_blockers
  m_Latches_blockers : Meth K (He.ga K "Latches") "blockers" (He.ma K (He.ga K "Latches") "blockers")
  fd_Latches_ring : FuncData
  F_Latches_ring : FunD K "ring" "Latches.ring" (defArgs s_Latches_ring) (defBody s_Latches_ring) (defScope s_Latches_ring) [] [] (He.ma K (He.ga K "Latches") "ring") fd_Latches_ring
  m_Latches_ring : Meth K (He.ga K "Latches") "ring" (He.ma K (He.ga K "Latches") "ring")
  fd_Latches_state : FuncData
  F_Latches_state : FunD K "state" "Latches.state" (defArgs s_Latches_state) (defBody s_Latches_state) (defScope s_Latches_state) [] [] (He.ma K (He.ga K "Latches") "state") fd_Latches_state
  m_Latches_state : Meth K (He.ga K "Latches") "state" (He.ma K (He.ga K "Latches") "state")
  fd_Latches_eq : FuncData
  F_Latches_eq : FunD K "__eq__" "Latches.__eq__" (defArgs s_Latches_eq) (defBody s_Latches_eq) (defScope s_Latches_eq) [] [] (He.ma K (He.ga K "Latches") "__eq__") fd_Latches_eq
  m_Latches_eq : Meth K (He.ga K "Latches") "__eq__" (He.ma K (He.ga K "Latches") "__eq__")
  fd_Latches_len : FuncData
  F_Latches_len : FunD K "__len__" "Latches.__len__" (defArgs s_Latches_len) (defBody s_Latches_len) (defScope s_Latches_len) [] [] (He.ma K (He.ga K "Latches") "__len__") fd_Latches_len
  m_Latches_len : Meth K (He.ga K "Latches") "__len__" (He.ma K (He.ga K "Latches") "__len__")
  fd_law_pot : FuncData
  F_law_pot : FunD K "_law_pot" "_law_pot" (defArgs s_law_pot) (defBody s_law_pot) (defScope s_law_pot) [] [] (He.ga K "_law_pot") fd_law_pot
  g_law_pot : mg "_law_pot" = some (.ref (He.ga K "_law_pot"))
  fd_law_take : FuncData
  F_law_take : FunD K "_law_take" "_law_take" (defArgs s_law_take) (defBody s_law_take) (defScope s_law_take) [] [] (He.ga K "_law_take") fd_law_take
  g_law_take : mg "_law_take" = some (.ref (He.ga K "_law_take"))
  fd_law_same : FuncData
  F_law_same : FunD K "_law_same" "_law_same" (defArgs s_law_same) (defBody s_law_same) (defScope s_law_same) [] [] (He.ga K "_law_same") fd_law_same
  g_law_same : mg "_law_same" = some (.ref (He.ga K "_law_same"))
  fd_law_unlike : FuncData
  F_law_unlike : FunD K "_law_unlike" "_law_unlike" (defArgs s_law_unlike) (defBody s_law_unlike) (defScope s_law_unlike) [] [] (He.ga K "_law_unlike") fd_law_unlike
  g_law_unlike : mg "_law_unlike" = some (.ref (He.ga K "_law_unlike"))
  fd_law_named : FuncData
  F_law_named : FunD K "_law_named" "_law_named" (defArgs s_law_named) (defBody s_law_named) (defScope s_law_named) [] [] (He.ga K "_law_named") fd_law_named
  g_law_named : mg "_law_named" = some (.ref (He.ga K "_law_named"))
  fd_law_none : FuncData
  F_law_none : FunD K "_law_none" "_law_none" (defArgs s_law_none) (defBody s_law_none) (defScope s_law_none) [] [] (He.ga K "_law_none") fd_law_none
  g_law_none : mg "_law_none" = some (.ref (He.ga K "_law_none"))
  fd_law_fits : FuncData
  F_law_fits : FunD K "_law_fits" "_law_fits" (defArgs s_law_fits) (defBody s_law_fits) (defScope s_law_fits) [] [] (He.ga K "_law_fits") fd_law_fits
  g_law_fits : mg "_law_fits" = some (.ref (He.ga K "_law_fits"))
  fd_law_awaits : FuncData
  F_law_awaits : FunD K "_law_awaits" "_law_awaits" (defArgs s_law_awaits) (defBody s_law_awaits) (defScope s_law_awaits) [] [] (He.ga K "_law_awaits") fd_law_awaits
  g_law_awaits : mg "_law_awaits" = some (.ref (He.ga K "_law_awaits"))
  fd_law_grips : FuncData
  F_law_grips : FunD K "_law_grips" "_law_grips" (defArgs s_law_grips) (defBody s_law_grips) (defScope s_law_grips) [] [] (He.ga K "_law_grips") fd_law_grips
  g_law_grips : mg "_law_grips" = some (.ref (He.ga K "_law_grips"))
  fd_law_taken : FuncData
  F_law_taken : FunD K "_law_taken" "_law_taken" (defArgs s_law_taken) (defBody s_law_taken) (defScope s_law_taken) [] [] (He.ga K "_law_taken") fd_law_taken
  g_law_taken : mg "_law_taken" = some (.ref (He.ga K "_law_taken"))
  fd_law_left : FuncData
  F_law_left : FunD K "_law_left" "_law_left" (defArgs s_law_left) (defBody s_law_left) (defScope s_law_left) [] [] (He.ga K "_law_left") fd_law_left
  g_law_left : mg "_law_left" = some (.ref (He.ga K "_law_left"))
  fd_law_move : FuncData
  F_law_move : FunD K "_law_move" "_law_move" (defArgs s_law_move) (defBody s_law_move) (defScope s_law_move) [] [] (He.ga K "_law_move") fd_law_move
  g_law_move : mg "_law_move" = some (.ref (He.ga K "_law_move"))
  fd_law_done : FuncData
  F_law_done : FunD K "_law_done" "_law_done" (defArgs s_law_done) (defBody s_law_done) (defScope s_law_done) [] [] (He.ga K "_law_done") fd_law_done
  g_law_done : mg "_law_done" = some (.ref (He.ga K "_law_done"))
  fd_law_stands : FuncData
  F_law_stands : FunD K "_law_stands" "_law_stands" (defArgs s_law_stands) (defBody s_law_stands) (defScope s_law_stands) [] [] (He.ga K "_law_stands") fd_law_stands
  g_law_stands : mg "_law_stands" = some (.ref (He.ga K "_law_stands"))
  fd_law_begun : FuncData
  F_law_begun : FunD K "_law_begun" "_law_begun" (defArgs s_law_begun) (defBody s_law_begun) (defScope s_law_begun) [] [] (He.ga K "_law_begun") fd_law_begun
  g_law_begun : mg "_law_begun" = some (.ref (He.ga K "_law_begun"))
  fd_law_straight : FuncData
  F_law_straight : FunD K "_law_straight" "_law_straight" (defArgs s_law_straight) (defBody s_law_straight) (defScope s_law_straight) [] [] (He.ga K "_law_straight") fd_law_straight
  g_law_straight : mg "_law_straight" = some (.ref (He.ga K "_law_straight"))
  fd_law_alike : FuncData
  F_law_alike : FunD K "_law_alike" "_law_alike" (defArgs s_law_alike) (defBody s_law_alike) (defScope s_law_alike) [] [] (He.ga K "_law_alike") fd_law_alike
  g_law_alike : mg "_law_alike" = some (.ref (He.ga K "_law_alike"))
  fd_law : FuncData
  F_law : FunD K "law" "law" (defArgs s_law) (defBody s_law) (defScope s_law) [] [] (He.ga K "law") fd_law
  g_law : mg "law" = some (.ref (He.ga K "law"))
  g_GroveError : mg "GroveError" = some (.ref (He.ga K "GroveError"))
  g_NoPage : mg "NoPage" = some (.ref (He.ga K "NoPage"))
  g_NoHand : mg "NoHand" = some (.ref (He.ga K "NoHand"))
  g_Waits : mg "Waits" = some (.ref (He.ga K "Waits"))
  g_Holds : mg "Holds" = some (.ref (He.ga K "Holds"))
  g_HoldsNot : mg "HoldsNot" = some (.ref (He.ga K "HoldsNot"))
  g_Latches : mg "Latches" = some (.ref (He.ga K "Latches"))
  cl_Latches : Cls K (He.ga K "Latches")
  mk_Latches : Mk K (He.ga K "Latches") (He.ma K (He.ga K "Latches") "__init__")
  ne_Latches : PySem.W.findIn K (.ref (He.ga K "Latches")) "__ne__" = some (some (.builtin "object.__ne__"))
  kc_Latches : PySem.W.findIn K (.ref (He.ga K "Latches")) "__class__" = some (some (.builtin "object.__class__"))
  kg_Latches : PySem.W.specialIn K (.builtin "object.__class__") "__get__" = some (some (.builtin "getset_descriptor.__get__"))
  kt_Latches : PySem.W.takesIn K (.builtin "object.__class__") = some true
  na_Latches_holding : NoAttr K (He.ga K "Latches") "holding"
  na_Latches_lines : NoAttr K (He.ga K "Latches") "lines"
  na_Latches_wanted : NoAttr K (He.ga K "Latches") "wanted"
  na_Latches___bool__ : NoAttr K (He.ga K "Latches") "__bool__"
  g_LAST_PAGE : ∃ t, mg "LAST_PAGE" = some (.int 1000000 t)
  g_LAST_HAND : ∃ t, mg "LAST_HAND" = some (.int 60 t)
  n_abs : mg "abs" = none
  n_all : mg "all" = none
  n_any : mg "any" = none
  n_bool : mg "bool" = none
  n_int : mg "int" = none
  n_isinstance : mg "isinstance" = none
  n_len : mg "len" = none
  n_list : mg "list" = none
  n_max : mg "max" = none
  n_min : mg "min" = none
  n_range : mg "range" = none
  n_sorted : mg "sorted" = none
  n_str : mg "str" = none
  n_tuple : mg "tuple" = none
  n_zip : mg "zip" = none
theorem b_ring_in {K : PySem.W.Frag} {mg : Str → Option Value} (T : TX K mg) : Binds K T.fd_ring_in ["nexts"] [] := T.F_ring_in.bindsN fun _ _ _ _ _ _ us hl => match us, hl with | [_], _ => rfl
theorem b_is_whole {K : PySem.W.Frag} {mg : Str → Option Value} (T : TX K mg) : Binds K T.fd_is_whole ["thing"] [] := T.F_is_whole.bindsN fun _ _ _ _ _ _ us hl => match us, hl with | [_], _ => rfl
theorem b_is_between {K : PySem.W.Frag} {mg : Str → Option Value} (T : TX K mg) : Binds K T.fd_is_between ["thing", "low", "high"] [] := T.F_is_between.bindsN fun _ _ _ _ _ _ us hl => match us, hl with | [_, _, _], _ => rfl
theorem b_need_hand {K : PySem.W.Frag} {mg : Str → Option Value} (T : TX K mg) : Binds K T.fd_need_hand ["thing"] [] := T.F_need_hand.bindsN fun _ _ _ _ _ _ us hl => match us, hl with | [_], _ => rfl
theorem b_need_latch {K : PySem.W.Frag} {mg : Str → Option Value} (T : TX K mg) : Binds K T.fd_need_latch ["thing"] [] := T.F_need_latch.bindsN fun _ _ _ _ _ _ us hl => match us, hl with | [_], _ => rfl
theorem b_may_hold {K : PySem.W.Frag} {mg : Str → Option Value} (T : TX K mg) : Binds K T.fd_may_hold ["holders", "alone"] [] := T.F_may_hold.bindsN fun _ _ _ _ _ _ us hl => match us, hl with | [_, _], _ => rfl
theorem b_Latches_init {K : PySem.W.Frag} {mg : Str → Option Value} (T : TX K mg) : Binds K T.fd_Latches_init ["self"] [] := T.F_Latches_init.bindsN fun _ _ _ _ _ _ us hl => match us, hl with | [_], _ => rfl
theorem b_Latches_let {K : PySem.W.Frag} {mg : Str → Option Value} (T : TX K mg) : Binds K T.fd_Latches_let ["self", "hand", "page"] [] := T.F_Latches_let.bindsN fun _ _ _ _ _ _ us hl => match us, hl with | [_, _, _], _ => rfl
theorem b_Latches_need_no_wait {K : PySem.W.Frag} {mg : Str → Option Value} (T : TX K mg) : Binds K T.fd_Latches_need_no_wait ["self", "hand"] [] := T.F_Latches_need_no_wait.bindsN fun _ _ _ _ _ _ us hl => match us, hl with | [_, _], _ => rfl
theorem b_Latches_holders {K : PySem.W.Frag} {mg : Str → Option Value} (T : TX K mg) : Binds K T.fd_Latches_holders ["self", "page"] [] := T.F_Latches_holders.bindsN fun _ _ _ _ _ _ us hl => match us, hl with | [_, _], _ => rfl
theorem b_Latches_queue {K : PySem.W.Frag} {mg : Str → Option Value} (T : TX K mg) : Binds K T.fd_Latches_queue ["self", "page"] [] := T.F_Latches_queue.bindsN fun _ _ _ _ _ _ us hl => match us, hl with | [_, _], _ => rfl
theorem b_Latches_held {K : PySem.W.Frag} {mg : Str → Option Value} (T : TX K mg) : Binds K T.fd_Latches_held ["self", "hand"] [] := T.F_Latches_held.bindsN fun _ _ _ _ _ _ us hl => match us, hl with | [_, _], _ => rfl
theorem b_Latches_awaited {K : PySem.W.Frag} {mg : Str → Option Value} (T : TX K mg) : Binds K T.fd_Latches_awaited ["self", "hand"] [] := T.F_Latches_awaited.bindsN fun _ _ _ _ _ _ us hl => match us, hl with | [_, _], _ => rfl
theorem b_Latches_blockers {K : PySem.W.Frag} {mg : Str → Option Value} (T : TX K mg) : Binds K T.fd_Latches_blockers ["self", "hand"] [] := T.F_Latches_blockers.bindsN fun _ _ _ _ _ _ us hl => match us, hl with | [_, _], _ => rfl
theorem b_Latches_ring {K : PySem.W.Frag} {mg : Str → Option Value} (T : TX K mg) : Binds K T.fd_Latches_ring ["self"] [] := T.F_Latches_ring.bindsN fun _ _ _ _ _ _ us hl => match us, hl with | [_], _ => rfl
theorem b_Latches_state {K : PySem.W.Frag} {mg : Str → Option Value} (T : TX K mg) : Binds K T.fd_Latches_state ["self"] [] := T.F_Latches_state.bindsN fun _ _ _ _ _ _ us hl => match us, hl with | [_], _ => rfl
theorem b_Latches_eq {K : PySem.W.Frag} {mg : Str → Option Value} (T : TX K mg) : Binds K T.fd_Latches_eq ["self", "other"] [] := T.F_Latches_eq.bindsN fun _ _ _ _ _ _ us hl => match us, hl with | [_, _], _ => rfl
theorem b_Latches_len {K : PySem.W.Frag} {mg : Str → Option Value} (T : TX K mg) : Binds K T.fd_Latches_len ["self"] [] := T.F_Latches_len.bindsN fun _ _ _ _ _ _ us hl => match us, hl with | [_], _ => rfl
theorem b_law_pot {K : PySem.W.Frag} {mg : Str → Option Value} (T : TX K mg) : Binds K T.fd_law_pot ["script", "k"] [] := T.F_law_pot.bindsN fun _ _ _ _ _ _ us hl => match us, hl with | [_, _], _ => rfl
theorem b_law_take {K : PySem.W.Frag} {mg : Str → Option Value} (T : TX K mg) : Binds K T.fd_law_take ["pot", "many"] [] := T.F_law_take.bindsN fun _ _ _ _ _ _ us hl => match us, hl with | [_, _], _ => rfl
theorem b_law_same {K : PySem.W.Frag} {mg : Str → Option Value} (T : TX K mg) : Binds K T.fd_law_same ["found", "due"] [] := T.F_law_same.bindsN fun _ _ _ _ _ _ us hl => match us, hl with | [_, _], _ => rfl
theorem b_law_unlike {K : PySem.W.Frag} {mg : Str → Option Value} (T : TX K mg) : Binds K T.fd_law_unlike ["pot", "many", "most"] [] := T.F_law_unlike.bindsN fun _ _ _ _ _ _ us hl => match us, hl with | [_, _, _], _ => rfl
theorem b_law_named {K : PySem.W.Frag} {mg : Str → Option Value} (T : TX K mg) : Binds K T.fd_law_named ["pot", "hands", "pages"] [] := T.F_law_named.bindsN fun _ _ _ _ _ _ us hl => match us, hl with | [_, _, _], _ => rfl
theorem b_law_none {K : PySem.W.Frag} {mg : Str → Option Value} (T : TX K mg) : Binds K T.fd_law_none [] [] := T.F_law_none.bindsN fun _ _ _ _ _ _ us hl => match us, hl with | [], _ => rfl
theorem b_law_fits {K : PySem.W.Frag} {mg : Str → Option Value} (T : TX K mg) : Binds K T.fd_law_fits ["state", "page", "lone"] [] := T.F_law_fits.bindsN fun _ _ _ _ _ _ us hl => match us, hl with | [_, _, _], _ => rfl
theorem b_law_awaits {K : PySem.W.Frag} {mg : Str → Option Value} (T : TX K mg) : Binds K T.fd_law_awaits ["state", "hand"] [] := T.F_law_awaits.bindsN fun _ _ _ _ _ _ us hl => match us, hl with | [_, _], _ => rfl
theorem b_law_grips {K : PySem.W.Frag} {mg : Str → Option Value} (T : TX K mg) : Binds K T.fd_law_grips ["state", "hand", "page"] [] := T.F_law_grips.bindsN fun _ _ _ _ _ _ us hl => match us, hl with | [_, _, _], _ => rfl
theorem b_law_taken {K : PySem.W.Frag} {mg : Str → Option Value} (T : TX K mg) : Binds K T.fd_law_taken ["state", "hand", "page", "lone"] [] := T.F_law_taken.bindsN fun _ _ _ _ _ _ us hl => match us, hl with | [_, _, _, _], _ => rfl
theorem b_law_left {K : PySem.W.Frag} {mg : Str → Option Value} (T : TX K mg) : Binds K T.fd_law_left ["state", "hand", "page"] [] := T.F_law_left.bindsN fun _ _ _ _ _ _ us hl => match us, hl with | [_, _, _], _ => rfl
theorem b_law_move {K : PySem.W.Frag} {mg : Str → Option Value} (T : TX K mg) : Binds K T.fd_law_move ["pot", "state", "hands", "pages", "rate"] [] := T.F_law_move.bindsN fun _ _ _ _ _ _ us hl => match us, hl with | [_, _, _, _, _], _ => rfl
theorem b_law_done {K : PySem.W.Frag} {mg : Str → Option Value} (T : TX K mg) : Binds K T.fd_law_done ["latches", "state", "move"] [] := T.F_law_done.bindsN fun _ _ _ _ _ _ us hl => match us, hl with | [_, _, _], _ => rfl
theorem b_law_stands {K : PySem.W.Frag} {mg : Str → Option Value} (T : TX K mg) : Binds K T.fd_law_stands ["latches", "state", "hands", "pages"] [] := T.F_law_stands.bindsN fun _ _ _ _ _ _ us hl => match us, hl with | [_, _, _, _], _ => rfl
theorem b_law_begun {K : PySem.W.Frag} {mg : Str → Option Value} (T : TX K mg) : Binds K T.fd_law_begun ["pot", "latches", "hands", "pages", "turns", "rate"] [] := T.F_law_begun.bindsN fun _ _ _ _ _ _ us hl => match us, hl with | [_, _, _, _, _, _], _ => rfl
theorem b_law_straight {K : PySem.W.Frag} {mg : Str → Option Value} (T : TX K mg) : Binds K T.fd_law_straight ["state", "pages"] [] := T.F_law_straight.bindsN fun _ _ _ _ _ _ us hl => match us, hl with | [_, _], _ => rfl
theorem b_law_alike {K : PySem.W.Frag} {mg : Str → Option Value} (T : TX K mg) : Binds K T.fd_law_alike ["one", "other", "due"] [] := T.F_law_alike.bindsN fun _ _ _ _ _ _ us hl => match us, hl with | [_, _, _], _ => rfl
theorem b_law {K : PySem.W.Frag} {mg : Str → Option Value} (T : TX K mg) : Binds K T.fd_law ["script"] [] := T.F_law.bindsN fun _ _ _ _ _ _ us hl => match us, hl with | [_], _ => rfl
end K37

namespace K37
open PySem PySem.Spec PyProof.Rows L2 RZ HX
/-- a pot at p: its three numbers, the last at most B -/
def PotOk (H : Hp) (p : Addr) (B : Int) : Prop := ∃ x y c : Int, H p = some (.lst [.int x, .int y, .int c]) ∧ 0 ≤ x ∧ x < 2 ^ 2000 ∧ 0 ≤ y ∧ y < 2 ^ 61 ∧ 0 ≤ c ∧ c ≤ B
theorem PotOk.le {H : Hp} {p : Addr} {B C : Int} (h : PotOk H p B) (l : B ≤ C) : PotOk H p C := by
  obtain ⟨x, y, c, h1, h2, h3, h4, h5, h6, h7⟩ := h
  exact ⟨x, y, c, h1, h2, h3, h4, h5, h6, Int.le_trans h7 l⟩
theorem PotOk.same {H H' : Hp} {p : Addr} {B : Int} (h : PotOk H p B) (s : Same H H') : PotOk H' p B := by
  obtain ⟨x, y, c, h1, r⟩ := h
  exact ⟨x, y, c, s _ _ h1, r⟩
theorem PotOk.ne {H : Hp} {p q : Addr} {B : Int} (h : PotOk H p B) (n : H q = none) : p ≠ q := by
  obtain ⟨x, y, c, h1, r⟩ := h
  exact ne_of_none h1 n
theorem PotOk.new {H : Hp} {p q : Addr} {B : Int} {o : HO} (h : PotOk H p B) (n : H q = none) : PotOk (upd H q o) p B := h.same (same_new n)
theorem ten600 : (((10 : Int) ^ (60 : Int).toNat) ^ (10 : Int).toNat) < 2 ^ 2000 := by decide +kernel
section
variable {P : Program} {w : World} {K : PySem.W.Frag} {mg : Str → Option Value} {base : Heap}
def sp_law_pot (K : PySem.W.Frag) : Sp := fun vs H Q _ => ∃ (a : Addr) (ns : List Int) (k : Nat), vs = [.ref a, .int (k : Int)] ∧ SqL K H a (ns.map V.int) ∧ k ≤ 1000 ∧ ∀ H' p, Same H H' → H p = none → PotOk H' p 0 → Q (.ref p) H'
theorem ok_law_pot (T : TX K mg) : FnOk P w K mg base CX0 1 (He.ga K "_law_pot") T.fd_law_pot ["script", "k"] (sp_law_pot K) := by
  refine T.F_law_pot.ok sc_law_pot (fun vs H Q E h => ?_) (fun cdv A outer st H vs Q E hr h => ?_)
  · obtain ⟨a, ns, k, rfl, _⟩ := h
    rfl
  · obtain ⟨a, ns, k, rfl, hS, hk, kq⟩ := h
    refine ⟨_, PSs.nox (pss_cons (ps_set (i := 2) sc_law_pot.nd rfl (Or.inl rfl) pe_int)
 (Evl.pss_cut (ps_if (pt_cmpR op_lt (pv 1) (pe_callB call_len_seq rfl T.n_len PySem.boot_len (pa_cons (pv 0) pa_nil)) (nomark _))
 (pss_one (ps_set (i := 2) sc_law_pot.nd rfl (Or.inl rfl) (pe_op op_mod (pe_callB call_abs rfl T.n_abs (by decide +kernel) (pa_cons (pe_ix ix_list (pv 0) (pv 1) (fun _ _ => rfl)) pa_nil)) (pe_op op_powW (pe_op op_powW pe_int pe_int) pe_int))))
 pss_nil)
 (pss_one (ps_ret (pe_lst (pa_cons (pe_op op_mulW (pv 2) (pe_callTy call_int1 rfl T.n_int (by decide +kernel) (pa_cons (pe_cmpR op_ge (pv 2) (pe_op op_powW pe_int pe_int) (nomark _)) pa_nil))) (pa_cons (pe_op op_mod (pe_op op_powW (pe_op op_add (pe_op op_add (pe_op op_mod (pv 2) pe_int) (pe_op op_mulW pe_int (pv 1))) pe_int) pe_int) pe_int) (pa_cons pe_int pa_nil)))))))), ?_⟩
    refine ⟨fun σ' H' => ∃ cell : Int, σ' = [some (.ref a), some (.int (k : Int)), some (.int cell)] ∧ H' = H ∧ 0 ≤ cell ∧ cell < 2 ^ 2000, ?_, ?_⟩
    · refine ⟨_, rfl, _, rfl, a, _, rfl, .inl hS, _, _, rfl, rfl, _, rfl, ?_⟩
      refine ite2 (fun hc => ?_) (fun hc => ?_)
      · have hc' := of_decide_eq_true hc
        rw [List.length_map] at hc'
        obtain ⟨n, hn⟩ : ∃ n, ns[k]? = some n := ⟨ns[k]'(by omega), List.getElem?_eq_getElem (by omega)⟩
        refine ⟨_, rfl, _, rfl, a, _, _, _, rfl, rfl, hS, at_of (v := V.int n) (by rw [List.getElem?_map, hn]; rfl) rfl, _, rfl, ?_⟩
        have p1 : (0 : Int) < 10 ^ (60 : Int).toNat := Int.pow_pos (by decide)
        have p2 : (0 : Int) < ((10 : Int) ^ (60 : Int).toNat) ^ (10 : Int).toNat := Int.pow_pos p1
        refine ⟨_, _, rfl, rfl, powW_of (a := 4) (by decide) (by decide) (by decide) (by decide), _, _, rfl, rfl, powW_of (a := 200) (by decide) (by decide +kernel) (by decide) (by decide), _, _, rfl, rfl, p2, ?_⟩
        refine ⟨_, rfl, rfl, Int.emod_nonneg _ (Int.ne_of_gt p2), Int.lt_trans (Int.emod_lt_of_pos _ p2) ten600⟩
      · exact ⟨0, rfl, rfl, by decide, Int.pow_pos (by decide)⟩
    · rintro σ' H' ⟨cell, rfl, rfl, c0, c1⟩
      have cn : cell.natAbs < 2 ^ 2000 := by
        have z : ((cell.natAbs : Nat) : Int) < ((2 ^ 2000 : Nat) : Int) := by
          rw [Int.natAbs_of_nonneg c0]
          exact_mod_cast c1
        exact_mod_cast z
      refine ⟨_, rfl, _, rfl, _, _, rfl, rfl, powW_of (a := 4) (by decide) (by decide) (by decide) (by decide), _, _, rfl, rfl, .inr ⟨_, rfl, ?_⟩⟩
      have bb : ∀ b : Bool, (0 : Int) ≤ (if b = true then 1 else 0) ∧ (if b = true then 1 else 0 : Int) ≤ 1 := fun b => by cases b <;> decide
      obtain ⟨d0, d1⟩ := bb (decide ((10 : Int) ^ (18 : Int).toNat ≤ cell))
      generalize (if decide ((10 : Int) ^ (18 : Int).toNat ≤ cell) = true then 1 else 0 : Int) = d at d0 d1
      refine ⟨_, _, rfl, rfl, wide_mul (a := 2000) (b := 2) cn (by omega) (by decide) (by decide) (by decide), ?_⟩
      have m1 : 0 ≤ cell % 2147483629 := Int.emod_nonneg _ (by decide)
      have m2 : cell % 2147483629 < 2147483629 := Int.emod_lt_of_pos _ (by decide)
      refine ⟨_, rfl, _, _, rfl, rfl, (show (0 : Int) < 2147483629 by decide), _, rfl, _, _, rfl, rfl, wide_mul (a := 20) (b := 20) (by decide) (by omega) (by decide) (by decide) (by decide), _, _, rfl, rfl, _, _, rfl, rfl, _, _, rfl, rfl, powW_of (a := 64) (by decide) (by omega) (by decide) (by decide), _, _, rfl, rfl, (show (0 : Int) < 2305843009213693951 by decide), ?_⟩
      refine ⟨by show 3 ≤ sizeLine; decide, fun p hp => kq _ p (same_new hp) hp ⟨_, _, _, upd_same, Int.mul_nonneg c0 d0, ?_, Int.emod_nonneg _ (by decide), Int.lt_of_lt_of_le (Int.emod_lt_of_pos _ (by decide)) (by decide), Int.le_refl 0, Int.le_refl 0⟩⟩
      have z := Int.mul_le_mul_of_nonneg_left d1 c0
      rw [Int.mul_one] at z
      exact Int.lt_of_le_of_lt z c1
def sp_law_take : Sp := fun vs H Q _ => ∃ (p : Addr) (many B : Int), vs = [.ref p, .int many] ∧ 0 < many ∧ many < 2 ^ 60 ∧ PotOk H p B ∧ B < 2 ^ 40 ∧ ∀ H' v, But p H H' → PotOk H' p (B + 1) → 0 ≤ v → v < many → Q (.int v) H'
theorem ok_law_take (T : TX K mg) : FnOk P w K mg base CX0 1 (He.ga K "_law_take") T.fd_law_take ["pot", "many"] sp_law_take := by
  refine T.F_law_take.ok sc_law_take (fun vs H Q E h => ?_) (fun cdv A outer st H vs Q E hr h => ?_)
  · obtain ⟨p, many, B, rfl, _⟩ := h
    rfl
  · obtain ⟨p, many, B, rfl, hm0, hm1, ⟨x, y, c, hp, x0, x1, y0, y1, c0, c1⟩, hB, kq⟩ := h
    refine ⟨_, PSs.nox (pss_cons (ps_if (pt_cmpR op_gt (pe_ix ix_list (pv 0) pe_int (fun _ _ => rfl)) pe_int (nomark _))
 (pss_cons (ps_set (i := 2) sc_law_take.nd rfl (Or.inl rfl) (pe_op op_mod (pe_ix ix_list (pv 0) pe_int (fun _ _ => rfl)) (pv 1)))
 (pss_cons (ps_asg (pe_op op_fdivW (pe_ix ix_list (pv 0) pe_int (fun _ _ => rfl)) (pv 1)) (pg_sub (pv 0) pe_int set_list))
 (pss_one (ps_ret (pv 2)))))
 pss_nil)
 (pss_cons (ps_asg (pe_op op_add (pe_ix ix_list (pv 0) pe_int (fun _ _ => rfl)) pe_int) (pg_sub (pv 0) pe_int set_list))
 (pss_cons (ps_set (i := 3) sc_law_take.nd rfl (Or.inl rfl) (pe_op op_mod (pe_op op_powW (pe_op op_add (pe_ix ix_list (pv 0) pe_int (fun _ _ => rfl)) (pe_op op_mulW pe_int (pe_ix ix_list (pv 0) pe_int (fun _ _ => rfl)))) pe_int) pe_int))
 (pss_cons (ps_set (i := 4) sc_law_take.nd rfl (Or.inl rfl) (pe_op op_mod (pe_op op_powW (pe_op op_add (pe_op op_add (pv 3) (pe_op op_mod (pe_ix ix_list (pv 0) pe_int (fun _ _ => rfl)) pe_int)) (pe_op op_mulW pe_int (pe_ix ix_list (pv 0) pe_int (fun _ _ => rfl)))) pe_int) pe_int))
 (pss_one (ps_ret (pe_op op_mod (pe_op op_fdivW (pv 4) pe_int) (pv 1)))))))), ?_⟩
    have i0 : ∀ (a b c : V), atI [a, b, c] 0 = some a := fun _ _ _ => rfl
    have i1 : ∀ (a b c : V), atI [a, b, c] 1 = some b := fun _ _ _ => rfl
    have i2 : ∀ (a b c : V), atI [a, b, c] 2 = some c := fun _ _ _ => rfl
    have bt : ∀ {o : HO}, But p H (upd H p o) := (But.refl p H).upd
    refine ⟨_, rfl, p, _, _, _, rfl, rfl, SqL.of hp, i0 _ _ _, _, _, rfl, rfl, _, rfl, ?_⟩
    refine ite2 (fun hc => ?_) (fun hc => ?_)
    · refine ⟨_, rfl, p, _, _, _, rfl, rfl, SqL.of hp, i0 _ _ _, _, rfl, _, _, rfl, rfl, hm0, ?_⟩
      refine ⟨_, rfl, p, _, _, _, rfl, rfl, SqL.of hp, i0 _ _ _, _, rfl, _, _, rfl, rfl, wide_div (b := 60) hm0 (by omega) (by decide) (by decide), _, rfl, p, _, _, _, rfl, rfl, hp, rfl, ?_⟩
      refine ⟨_, rfl, kq _ _ bt ⟨_, _, _, upd_same, Int.ediv_nonneg x0 (Int.le_of_lt hm0), Int.lt_of_le_of_lt (Int.ediv_le_self _ x0) x1, y0, y1, c0, by omega⟩ (Int.emod_nonneg _ (Int.ne_of_gt hm0)) (Int.emod_lt_of_pos _ hm0)⟩
    · refine ⟨_, rfl, p, _, _, _, rfl, rfl, SqL.of hp, i2 _ _ _, _, _, rfl, rfl, _, rfl, p, _, _, _, rfl, rfl, hp, rfl, ?_⟩
      have h2 : upd H p (.lst ([V.int x, V.int y, V.int c].set 2 (.int (c + 1)))) p = some (.lst [.int x, .int y, .int (c + 1)]) := upd_same
      refine ⟨_, rfl, p, _, _, _, rfl, rfl, SqL.of h2, i1 _ _ _, _, rfl, p, _, _, _, rfl, rfl, SqL.of h2, i2 _ _ _, ?_⟩
      refine ⟨_, _, rfl, rfl, wide_mul (a := 20) (b := 42) (by decide) (by omega) (by decide) (by decide) (by decide), _, _, rfl, rfl, _, _, rfl, rfl, powW_of (a := 64) (by decide) (by omega) (by decide) (by decide), _, _, rfl, rfl, (show (0 : Int) < 2305843009213693921 by decide), ?_⟩
      have m1 : 0 ≤ (y + 104729 * (c + 1)) ^ (3 : Int).toNat % 2305843009213693921 := Int.emod_nonneg _ (by decide)
      have m2 : (y + 104729 * (c + 1)) ^ (3 : Int).toNat % 2305843009213693921 < 2305843009213693921 := Int.emod_lt_of_pos _ (by decide)
      generalize (y + 104729 * (c + 1)) ^ (3 : Int).toNat % 2305843009213693921 = one at m1 m2
      refine ⟨_, rfl, _, rfl, p, _, _, _, rfl, rfl, SqL.of h2, i1 _ _ _, _, _, rfl, rfl, (show (0 : Int) < 65537 by decide), _, _, rfl, rfl, _, rfl, p, _, _, _, rfl, rfl, SqL.of h2, i2 _ _ _, ?_⟩
      have m3 : 0 ≤ y % 65537 := Int.emod_nonneg _ (by decide)
      have m4 : y % 65537 < 65537 := Int.emod_lt_of_pos _ (by decide)
      generalize y % 65537 = yy at m3 m4
      refine ⟨_, _, rfl, rfl, wide_mul (a := 20) (b := 42) (by decide) (by omega) (by decide) (by decide) (by decide), _, _, rfl, rfl, _, _, rfl, rfl, powW_of (a := 64) (by decide) (by omega) (by decide) (by decide), _, _, rfl, rfl, (show (0 : Int) < 2305843009213693907 by decide), ?_⟩
      refine ⟨_, rfl, _, _, rfl, rfl, ⟨by decide, by decide⟩, _, rfl, _, _, rfl, rfl, hm0, ?_⟩
      exact kq _ _ bt ⟨_, _, _, h2, x0, x1, y0, y1, by omega, by omega⟩ (Int.emod_nonneg _ (Int.ne_of_gt hm0)) (Int.emod_lt_of_pos _ hm0)
end
end K37

namespace K37
open PySem PySem.Spec PyProof.Rows L2 RZ HX TR RP AL
theorem paired_app {α β : Type} {R : α → β → Prop} : ∀ {xs : List α} {ys : List β} {xs' : List α} {ys' : List β}, Paired R xs ys → Paired R xs' ys' → Paired R (xs ++ xs') (ys ++ ys')
  | _, _, _, _, .nil, h => h
  | _, _, _, _, .cons r rs, h => .cons r (paired_app rs h)
theorem seqk {k n : Nat} (h : k < n) : seqIndex? (k : Int) n = some k := by
  show (let j := if (k : Int) < 0 then (k : Int) + (n : Int) else (k : Int); if (decide (0 ≤ j) && decide (j < (n : Int))) = true then some j.toNat else none) = some k
  have e : ¬ (k : Int) < 0 := by omega
  simp only [if_neg e]
  rw [if_pos (by simp; omega), Int.toNat_natCast]
abbrev HB := Int × Bool
theorem fz_keep {H H' : Hp} (k : Keep H H') {a : Addr} {xs : List V} (h : RU.FzT H a xs) : RU.FzT H' a xs := by
  obtain ⟨o, h1, h2⟩ := h
  exact ⟨o, k.frz h1, h2⟩
theorem fz_sq {K : PySem.W.Frag} {H : Hp} {a : Addr} {xs : List V} (h : RU.FzT H a xs) : SqT K H a xs := by
  obtain ⟨o, h1, _⟩ := h
  exact .inl (.inr ⟨o, h1⟩)
/-- more may hold beside these -/
def fits (hs : List HB) (alone : Bool) : Bool := hs.isEmpty || !(alone || hs.any (·.2))
def HdAt (H : Hp) (d : Addr) (hs : List HB) : Prop := H d = some (.dK (hs.map (ent V.bl)))
def HbAt (H : Hp) (x : V) (q : HB) : Prop := ∃ t : Addr, x = .ref t ∧ H t = some (.tup [.int q.1, .bl q.2])
def QuAt (H : Hp) (l : Addr) (qs : List HB) : Prop := ∃ xs, H l = some (.lst xs) ∧ Paired (HbAt H) xs qs
theorem HbAt.keep {H H' : Hp} (k : Keep H H') {x : V} {q : HB} (h : HbAt H x q) : HbAt H' x q := by
  obtain ⟨t, e, ht⟩ := h
  exact ⟨t, e, k.all t _ rfl ht⟩
def lfs (a b c : Addr) : List (Str × V) := putF "wanted" (.ref c) (putF "lines" (.ref b) (putF "holding" (.ref a) []))
/-- latches: who holds each page, who waits for it, for which page a hand waits -/
structure LatAt (K : PySem.W.Frag) (H : Hp) (s : Addr) (F : List Addr) (A B : Int → List HB) (W : Int → Option Int) (dx a b c : Addr) (ds ls : List (Int × Addr)) (ws : List (Int × Int)) : Prop where
  hs : H s = some (.ins (He.ga K "Latches") dx (lfs a b c))
  ha : H a = some (.dK (ds.map (ent V.ref)))
  hb : H b = some (.dK (ls.map (ent V.ref)))
  hc : H c = some (.dK (ws.map (ent V.int)))
  nd : (ds.map (·.1)).Nodup
  nl : (ls.map (·.1)).Nodup
  nw : (ws.map (·.1)).Nodup
  dd : ∀ q ∈ ds, HdAt H q.2 (A q.1)
  dn : ∀ p, p ∉ ds.map (·.1) → A p = []
  ll : ∀ q ∈ ls, QuAt H q.2 (B q.1)
  ln : ∀ p, p ∉ ls.map (·.1) → B p = []
  wd : ∀ h, alk ws h = W h
  f : F = s :: a :: b :: c :: (ds.map (·.2) ++ ls.map (·.2))
  nf : F.Nodup
/-- what holds of hands and pages -/
structure Okk (P HH : List Int) (A B : Int → List HB) (W : Int → Option Int) : Prop where
  pl : P.length ≤ 100
  hl : HH.length ≤ 100
  pr : ∀ p ∈ P, 0 ≤ p ∧ p ≤ 1000000
  hr : ∀ h ∈ HH, 0 ≤ h ∧ h ≤ 60
  pa : ∀ p, A p ≠ [] → p ∈ P
  pb : ∀ p, B p ≠ [] → p ∈ P
  ha : ∀ p, ∀ q ∈ A p, q.1 ∈ HH
  hb : ∀ p, ∀ q ∈ B p, q.1 ∈ HH
  na : ∀ p, ((A p).map (·.1)).Nodup
  nb : ∀ p, ((B p).map (·.1)).Nodup
  ww : ∀ h p, W h = some p ↔ h ∈ (B p).map (·.1)
  ab : ∀ p, ∀ q ∈ A p, q.1 ∉ (B p).map (·.1)
section
variable {K : PySem.W.Frag} {H H' : Hp} {s : Addr} {F : List Addr} {A B : Int → List HB} {W : Int → Option Int} {dx a b c : Addr} {ds ls : List (Int × Addr)} {ws : List (Int × Int)} {P HH : List Int}
theorem Okk.al (o : Okk P HH A B W) (p : Int) : (A p).length ≤ 100 := by
  have z := sub_len (o.na p) (ys := HH) fun x hx => by
    obtain ⟨q, hq, rfl⟩ := List.mem_map.mp hx
    exact o.ha p q hq
  rw [List.length_map] at z
  have := o.hl
  omega
theorem Okk.bl (o : Okk P HH A B W) (p : Int) : (B p).length ≤ 100 := by
  have z := sub_len (o.nb p) (ys := HH) fun x hx => by
    obtain ⟨q, hq, rfl⟩ := List.mem_map.mp hx
    exact o.hb p q hq
  rw [List.length_map] at z
  have := o.hl
  omega
theorem LatAt.dl (x : LatAt K H s F A B W dx a b c ds ls ws) (o : Okk P HH A B W) (ne : ∀ q ∈ ds, A q.1 ≠ []) : ds.length ≤ 100 := by
  have z := sub_len x.nd (ys := P) fun p hp => by
    obtain ⟨q, hq, rfl⟩ := List.mem_map.mp hp
    exact o.pa _ (ne q hq)
  rw [List.length_map] at z
  have := o.pl
  omega
theorem LatAt.lll (x : LatAt K H s F A B W dx a b c ds ls ws) (o : Okk P HH A B W) (ne : ∀ q ∈ ls, B q.1 ≠ []) : ls.length ≤ 100 := by
  have z := sub_len x.nl (ys := P) fun p hp => by
    obtain ⟨q, hq, rfl⟩ := List.mem_map.mp hp
    exact o.pb _ (ne q hq)
  rw [List.length_map] at z
  have := o.pl
  omega
theorem LatAt.wl (x : LatAt K H s F A B W dx a b c ds ls ws) (o : Okk P HH A B W) : ws.length ≤ 100 := by
  have z := sub_len x.nw (ys := HH) fun h hh => by
    obtain ⟨q, hq, rfl⟩ := List.mem_map.mp hh
    have e := x.wd q.1
    rw [mem_alk x.nw hq] at e
    obtain ⟨r, hr, e2⟩ := List.mem_map.mp ((o.ww q.1 q.2).mp e.symm)
    rw [← e2]
    exact o.hb _ r hr
  rw [List.length_map] at z
  have := o.hl
  omega
theorem LatAt.reg (x : LatAt K H s F A B W dx a b c ds ls ws) : Reg H F := fun y hy => by
  rw [x.f] at hy
  rcases List.mem_cons.mp hy with rfl | hy
  · exact ⟨_, x.hs, rfl⟩
  rcases List.mem_cons.mp hy with rfl | hy
  · exact ⟨_, x.ha, rfl⟩
  rcases List.mem_cons.mp hy with rfl | hy
  · exact ⟨_, x.hb, rfl⟩
  rcases List.mem_cons.mp hy with rfl | hy
  · exact ⟨_, x.hc, rfl⟩
  rcases List.mem_append.mp hy with hy | hy
  · obtain ⟨q, hq, rfl⟩ := List.mem_map.mp hy
    exact ⟨_, x.dd q hq, rfl⟩
  · obtain ⟨q, hq, rfl⟩ := List.mem_map.mp hy
    obtain ⟨xs, h1, _⟩ := x.ll q hq
    exact ⟨_, h1, rfl⟩
/-- what is elsewhere may change -/
theorem LatAt.out (x : LatAt K H s F A B W dx a b c ds ls ws) {G : List Addr} (o : Out G H H') (k : Keep H H') (d : ∀ y ∈ F, y ∉ G) : LatAt K H' s F A B W dx a b c ds ls ws := by
  have e := x.f
  have inF : ∀ y, y ∈ s :: a :: b :: c :: (ds.map (·.2) ++ ls.map (·.2)) → y ∉ G := fun y hy => d y (e ▸ hy)
  refine { x with hs := o _ _ (inF s (List.mem_cons_self ..)) x.hs, ha := o _ _ (inF a (by simp)) x.ha, hb := o _ _ (inF b (by simp)) x.hb, hc := o _ _ (inF c (by simp)) x.hc, dd := fun q hq => o _ _ (inF _ ?_) (x.dd q hq), ll := fun q hq => ?_ }
  · have : q.2 ∈ ds.map (·.2) := List.mem_map_of_mem hq
    simp only [List.mem_cons, List.mem_append]
    exact .inr (.inr (.inr (.inr (.inl this))))
  · obtain ⟨xs, h1, h2⟩ := x.ll q hq
    refine ⟨xs, o _ _ (inF _ ?_) h1, paired_imp (fun _ _ r => HbAt.keep k r) h2⟩
    have : q.2 ∈ ls.map (·.2) := List.mem_map_of_mem hq
    simp only [List.mem_cons, List.mem_append]
    exact .inr (.inr (.inr (.inr (.inr this))))
theorem LatAt.same (x : LatAt K H s F A B W dx a b c ds ls ws) (k : Same H H') : LatAt K H' s F A B W dx a b c ds ls ws := x.out (G := []) (Out.of k) (Keep.of k) fun _ _ z => nomatch z
theorem LatAt.get_hold (x : LatAt K H s F A B W dx a b c ds ls ws) (p : Int) : (∃ d, (p, d) ∈ ds ∧ valV (ds.map (ent V.ref)) (.inl p) = some (.ref d) ∧ HdAt H d (A p)) ∨ (alk ds p = none ∧ valV (ds.map (ent V.ref)) (.inl p) = none ∧ A p = []) := by
  rw [val_ent]
  cases e : alk ds p with
  | none => exact .inr ⟨rfl, rfl, x.dn p (alk_none.mp e)⟩
  | some d =>
    have m := alk_mem e
    exact .inl ⟨d, m, rfl, x.dd _ m⟩
theorem LatAt.get_line (x : LatAt K H s F A B W dx a b c ds ls ws) (p : Int) : (∃ d, (p, d) ∈ ls ∧ valV (ls.map (ent V.ref)) (.inl p) = some (.ref d) ∧ QuAt H d (B p)) ∨ (alk ls p = none ∧ valV (ls.map (ent V.ref)) (.inl p) = none ∧ B p = []) := by
  rw [val_ent]
  cases e : alk ls p with
  | none => exact .inr ⟨rfl, rfl, x.ln p (alk_none.mp e)⟩
  | some d =>
    have m := alk_mem e
    exact .inl ⟨d, m, rfl, x.ll _ m⟩
end
theorem lf_h {a b c : Addr} : (lfs a b c).lookup ("holding" : Str) = some (.ref a) := rfl
theorem lf_l {a b c : Addr} : (lfs a b c).lookup ("lines" : Str) = some (.ref b) := rfl
theorem lf_w {a b c : Addr} : (lfs a b c).lookup ("wanted" : Str) = some (.ref c) := rfl
section
variable {P : Program} {w : World} {K : PySem.W.Frag} {mg : Str → Option Value} {base : Heap}
def sp_is_whole : Sp := fun vs H Q _ => ∃ i : Int, vs = [.int i] ∧ Q (.bl true) H
theorem ok_is_whole (T : TX K mg) : FnOk P w K mg base CX0 1 (He.ga K "is_whole") T.fd_is_whole ["thing"] sp_is_whole := by
  refine T.F_is_whole.ok sc_is_whole (fun vs H Q E h => ?_) (fun cdv A outer st H vs Q E hr h => ?_)
  · obtain ⟨i, rfl, _⟩ := h
    rfl
  · obtain ⟨i, rfl, kq⟩ := h
    refine ⟨_, PSs.nox (pss_one (ps_ret (pe_and (pe_callB call_isi rfl T.n_isinstance (by decide +kernel) (pa_cons (pv 0) (pa_cons (pe_ty "int" T.n_int (by decide +kernel)) pa_nil))) (pe_one (pe_not (pe_callB call_isi rfl T.n_isinstance (by decide +kernel) (pa_cons (pv 0) (pa_cons (pe_ty "bool" T.n_bool (by decide +kernel)) pa_nil)))))))), ?_⟩
    refine ⟨_, rfl, _, _, .type "int", .type "int", true, rfl, .ty "int", .base (.int _), kit_ty (by decide +kernel), true, rfl, ?_⟩
    refine iteT ?_
    refine ⟨_, rfl, _, _, .type "int", .type "bool", false, rfl, .ty "bool", .base (.int _), kit_ty (by decide +kernel), ?_⟩
    exact ⟨_, rfl, kq⟩
end
end K37

namespace K37
open PySem PySem.Spec PyProof.Rows L2 RZ HX TR RP AL
section
variable {P : Program} {w : World} {K : PySem.W.Frag} {mg : Str → Option Value} {base : Heap}
def sp_is_between : Sp := fun vs H Q _ => ∃ i a b : Int, vs = [.int i, .int a, .int b] ∧ Q (.bl (decide (a ≤ i) && decide (i ≤ b))) H
theorem ok_is_between (T : TX K mg) : FnOk P w K mg base CX0 2 (He.ga K "is_between") T.fd_is_between ["thing", "low", "high"] sp_is_between := by
  have G_is_whole : FnOk P w K mg base CX0 1 (He.ga K "is_whole") T.fd_is_whole ["thing"] sp_is_whole := ok_is_whole T
  have b_is_whole := b_is_whole T
  refine T.F_is_between.ok sc_is_between (fun vs H Q E h => ?_) (fun cdv A outer st H vs Q E hr h => ?_)
  · obtain ⟨i, a, b, rfl, _⟩ := h
    rfl
  · obtain ⟨i, a, b, rfl, kq⟩ := h
    refine ⟨_, PSs.nox (pss_one (ps_ret (pe_and (pe_call G_is_whole (hr.mono (by first | decide | omega)) rfl T.g_is_whole T.F_is_whole.kp b_is_whole .nil pass0 (pa_cons (pv 0) pa_nil)) (pe_one (pe_chain op_le op_le (pv 1) (pv 0) (pv 2)))))), ?_⟩
    refine ⟨_, rfl, i, rfl, true, rfl, ?_⟩
    refine iteT ?_
    refine ⟨_, rfl, _, rfl, _, _, rfl, rfl, _, rfl, ?_⟩
    cases c : decide (a ≤ i) with
    | true =>
      rw [c] at kq
      exact iteT ⟨_, rfl, _, _, rfl, rfl, kq⟩
    | false =>
      rw [c] at kq
      exact iteF kq
def sp_need_hand : Sp := fun vs H Q _ => ∃ k : Int, vs = [.int k] ∧ 0 ≤ k ∧ k ≤ 60 ∧ Q .non H
theorem ok_need_hand (T : TX K mg) : FnOk P w K mg base CX0 3 (He.ga K "need_hand") T.fd_need_hand ["thing"] sp_need_hand := by
  have G_is_between : FnOk P w K mg base CX0 2 (He.ga K "is_between") T.fd_is_between ["thing", "low", "high"] sp_is_between := ok_is_between T
  have b_is_between := b_is_between T
  refine T.F_need_hand.ok sc_need_hand (fun vs H Q E h => ?_) (fun cdv A outer st H vs Q E hr h => ?_)
  · obtain ⟨k, rfl, _⟩ := h
    rfl
  · obtain ⟨k, rfl, h0, h1, kq⟩ := h
    refine ⟨_, PSs.nox (pss_one (ps_if (pt_not (pt_val (pe_call G_is_between (hr.mono (by first | decide | omega)) rfl T.g_is_between T.F_is_between.kp b_is_between .nil pass0 (pa_cons (pv 0) (pa_cons pe_int (pa_cons (pe_gint T.g_LAST_HAND) pa_nil))))))
 (pss_one ps_never)
 pss_nil)), ?_⟩
    refine ⟨_, rfl, k, 0, 60, rfl, ?_⟩
    rw [decide_eq_true h0, decide_eq_true h1]
    exact ⟨true, rfl, iteF kq⟩
def sp_need_latch : Sp := fun vs H Q _ => ∃ k : Int, vs = [.int k] ∧ 0 ≤ k ∧ k ≤ 1000000 ∧ Q .non H
theorem ok_need_latch (T : TX K mg) : FnOk P w K mg base CX0 3 (He.ga K "need_latch") T.fd_need_latch ["thing"] sp_need_latch := by
  have G_is_between : FnOk P w K mg base CX0 2 (He.ga K "is_between") T.fd_is_between ["thing", "low", "high"] sp_is_between := ok_is_between T
  have b_is_between := b_is_between T
  refine T.F_need_latch.ok sc_need_latch (fun vs H Q E h => ?_) (fun cdv A outer st H vs Q E hr h => ?_)
  · obtain ⟨k, rfl, _⟩ := h
    rfl
  · obtain ⟨k, rfl, h0, h1, kq⟩ := h
    refine ⟨_, PSs.nox (pss_one (ps_if (pt_not (pt_val (pe_call G_is_between (hr.mono (by first | decide | omega)) rfl T.g_is_between T.F_is_between.kp b_is_between .nil pass0 (pa_cons (pv 0) (pa_cons pe_int (pa_cons (pe_gint T.g_LAST_PAGE) pa_nil))))))
 (pss_one ps_never)
 pss_nil)), ?_⟩
    refine ⟨_, rfl, k, 0, 1000000, rfl, ?_⟩
    rw [decide_eq_true h0, decide_eq_true h1]
    exact ⟨true, rfl, iteF kq⟩
def sp_may_hold : Sp := fun vs H Q _ => ∃ (d : Addr) (hs : List HB) (alone : Bool), vs = [.ref d, .bl alone] ∧ HdAt H d hs ∧ ∀ H', Same H H' → Q (.bl (fits hs alone)) H'
theorem ok_may_hold (T : TX K mg) : FnOk P w K mg base CX0 1 (He.ga K "may_hold") T.fd_may_hold ["holders", "alone"] sp_may_hold := by
  refine T.F_may_hold.ok sc_may_hold (fun vs H Q E h => ?_) (fun cdv A outer st H vs Q E hr h => ?_)
  · obtain ⟨d, hs, alone, rfl, _⟩ := h
    rfl
  · obtain ⟨d, hs, alone, rfl, hd, kq⟩ := h
    refine ⟨_, PSs.nox (pss_one (ps_ret (pe_or (pe_notT (pv 0)) (pe_one (pe_not (pe_or (pv 1) (pe_one (pe_callB (cr_any rfl) rfl T.n_any (by decide +kernel) (pa_cons (LV2.pe_listVals rfl (pv 0) rfl T.n_list) pa_nil))))))))), ?_⟩
    have hd' : H d = some (.dK (hs.map (ent V.bl))) := hd
    have em : ((hs.map (ent V.bl)).isEmpty) = hs.isEmpty := by cases hs <;> rfl
    refine ⟨_, rfl, hs.isEmpty.not, .inr (.inr ⟨_, hd', by rw [em]⟩), ?_⟩
    refine ⟨_, rfl, ?_⟩
    cases he : hs.isEmpty with
    | true =>
      have z := kq _ (Same.refl H)
      have e : fits hs alone = true := by
        unfold fits
        rw [he]
        rfl
      rw [e] at z
      exact iteT z
    | false =>
      have e : fits hs alone = !(alone || hs.any (·.2)) := by
        unfold fits
        rw [he]
        rfl
      rw [e] at kq
      refine iteF ⟨_, rfl, ?_⟩
      refine ⟨_, rfl, ?_⟩
      cases alone with
      | true => exact iteT ⟨_, rfl, kq _ (Same.refl H)⟩
      | false =>
        refine iteF ⟨_, rfl, d, _, rfl, hd', fun p H1 s1 np hp => ?_⟩
        have ev : (hs.map (ent V.bl)).map (·.2) = (hs.map (·.2)).map V.bl := by
          rw [List.map_map, List.map_map]
          rfl
        rw [ev] at hp
        refine ⟨p, _, rfl, SqL.of hp, ?_⟩
        have ea : (hs.map (·.2)).any id = hs.any (·.2) := by rw [List.any_map]; rfl
        rw [ea]
        exact ⟨_, rfl, kq _ s1⟩
def sp_Latches_init (K : PySem.W.Frag) : Sp := fun vs H Q _ => ∃ (s dx : Addr), vs = [.ref s] ∧ H s = some (.ins (He.ga K "Latches") dx []) ∧
  ∀ (H' : Hp) (a b c : Addr), But s H H' → H a = none → H b = none → H c = none → [s, a, b, c].Nodup → LatAt K H' s [s, a, b, c] (fun _ => []) (fun _ => []) (fun _ => none) dx a b c [] [] [] → Q .non H'
theorem ok_Latches_init (T : TX K mg) : FnOk P w K mg base CX0 1 (He.ma K (He.ga K "Latches") "__init__") T.fd_Latches_init ["self"] (sp_Latches_init K) := by
  refine T.F_Latches_init.ok sc_Latches_init (fun vs H Q E h => ?_) (fun cdv A outer st H vs Q E hr h => ?_)
  · obtain ⟨s, dx, rfl, _⟩ := h
    rfl
  · obtain ⟨s, dx, rfl, hs, kq⟩ := h
    refine ⟨_, PSs.nox (pss_cons (ps_fld (pv 0) pe_dnewK rfl)
 (pss_cons (ps_fld (pv 0) pe_dnewK rfl)
 (pss_one (ps_fld (pv 0) pe_dnewK rfl)))), ?_⟩
    have l0 : ([] : List (Str × V)).length < 1 := Nat.lt_succ_self 0
    refine fun a ha => ?_
    have nas : a ≠ s := fun z => by rw [z, hs] at ha; cases ha
    have s1 := same_new (o := .dK []) ha
    refine ⟨_, rfl, s, _, dx, _, rfl, s1 _ _ hs, T.cl_Latches, T.na_Latches_holding, by show 0 < 1000; decide, ?_⟩
    have hs2 : upd (upd H a (.dK [])) s (.ins (He.ga K "Latches") dx (putF "holding" (.ref a) [])) s = some (.ins (He.ga K "Latches") dx (putF "holding" (.ref a) [])) := upd_same
    have ha2 : upd (upd H a (.dK [])) s (.ins (He.ga K "Latches") dx (putF "holding" (.ref a) [])) a = some (.dK []) := by rw [upd_ne nas]; exact upd_same
    have b2 : But s H (upd (upd H a (.dK [])) s (.ins (He.ga K "Latches") dx (putF "holding" (.ref a) []))) := (But.of s1).upd
    generalize upd (upd H a (.dK [])) s (.ins (He.ga K "Latches") dx (putF "holding" (.ref a) [])) = H2 at hs2 ha2 b2
    refine fun b hb => ?_
    have hbn : H b = none := by
      cases z : H b with
      | none => rfl
      | some o => exact absurd (b2 _ _ (fun e => by rw [e, hs2] at hb; cases hb) z) (by rw [hb]; simp)
    have nbs : b ≠ s := fun z => by rw [z, hs2] at hb; cases hb
    have nab : a ≠ b := ne_of_none ha2 hb
    have s3 := same_new (o := .dK []) hb
    refine ⟨_, rfl, s, _, dx, _, rfl, s3 _ _ hs2, T.cl_Latches, T.na_Latches_lines, Nat.lt_trans (putF_lt l0) (by decide), ?_⟩
    have hs4 : upd (upd H2 b (.dK [])) s (.ins (He.ga K "Latches") dx (putF "lines" (.ref b) (putF "holding" (.ref a) []))) s = some (.ins (He.ga K "Latches") dx (putF "lines" (.ref b) (putF "holding" (.ref a) []))) := upd_same
    have ha4 : upd (upd H2 b (.dK [])) s (.ins (He.ga K "Latches") dx (putF "lines" (.ref b) (putF "holding" (.ref a) []))) a = some (.dK []) := by rw [upd_ne nas]; exact s3 _ _ ha2
    have hb4 : upd (upd H2 b (.dK [])) s (.ins (He.ga K "Latches") dx (putF "lines" (.ref b) (putF "holding" (.ref a) []))) b = some (.dK []) := by rw [upd_ne nbs]; exact upd_same
    have b4 : But s H (upd (upd H2 b (.dK [])) s (.ins (He.ga K "Latches") dx (putF "lines" (.ref b) (putF "holding" (.ref a) [])))) := (b2.trans (But.of s3)).upd
    generalize upd (upd H2 b (.dK [])) s (.ins (He.ga K "Latches") dx (putF "lines" (.ref b) (putF "holding" (.ref a) []))) = H4 at hs4 ha4 hb4 b4
    refine fun c hc => ?_
    have hcn : H c = none := by
      cases z : H c with
      | none => rfl
      | some o => exact absurd (b4 _ _ (fun e => by rw [e, hs4] at hc; cases hc) z) (by rw [hc]; simp)
    have ncs : c ≠ s := fun z => by rw [z, hs4] at hc; cases hc
    have nac : a ≠ c := ne_of_none ha4 hc
    have nbc : b ≠ c := ne_of_none hb4 hc
    have s5 := same_new (o := .dK []) hc
    refine ⟨_, rfl, s, _, dx, _, rfl, s5 _ _ hs4, T.cl_Latches, T.na_Latches_wanted, Nat.lt_trans (putF_lt (putF_lt l0)) (by decide), ?_⟩
    refine kq _ a b c ((b4.trans (But.of s5)).upd) ha hbn hcn ?_ ⟨upd_same, ?_, ?_, ?_, List.nodup_nil, List.nodup_nil, List.nodup_nil, (fun q hq => nomatch hq), fun _ _ => rfl, (fun q hq => nomatch hq), fun _ _ => rfl, fun _ => rfl, rfl, ?_⟩
    · simp [nas.symm, nbs.symm, ncs.symm, nab, nac, nbc]
    · rw [upd_ne nas]
      exact s5 _ _ ha4
    · rw [upd_ne nbs]
      exact s5 _ _ hb4
    · rw [upd_ne ncs]
      exact upd_same
    · simp [nas.symm, nbs.symm, ncs.symm, nab, nac, nbc]
def sp_need_no_wait (K : PySem.W.Frag) : Sp := fun vs H Q _ => ∃ (s : Addr) (hand : Int) (dx a b c : Addr) (ws : List (Int × Int)), vs = [.ref s, .int hand] ∧ H s = some (.ins (He.ga K "Latches") dx (lfs a b c)) ∧ H c = some (.dK (ws.map (ent V.int))) ∧ alk ws hand = none ∧ Q .non H
theorem ok_need_no_wait (T : TX K mg) : FnOk P w K mg base CX0 1 (He.ma K (He.ga K "Latches") "need_no_wait") T.fd_Latches_need_no_wait ["self", "hand"] (sp_need_no_wait K) := by
  refine T.F_Latches_need_no_wait.ok sc_Latches_need_no_wait (fun vs H Q E h => ?_) (fun cdv A outer st H vs Q E hr h => ?_)
  · obtain ⟨s, hand, dx, a, b, c, ws, rfl, _⟩ := h
    rfl
  · obtain ⟨s, hand, dx, a, b, c, ws, rfl, hs, hc, hn, kq⟩ := h
    refine ⟨_, PSs.nox (pss_one (ps_if (pt_cmp (pc_din (hu_of hr) (pv 1) (pe_fld (pv 0) rfl)))
 (pss_one ps_never)
 pss_nil)), ?_⟩
    refine ⟨_, rfl, _, rfl, s, _, dx, _, _, rfl, hs, T.cl_Latches, T.na_Latches_wanted, lf_w, c, _, rfl, DGet.k (k := .inl hand) hc, _, rfl, ?_⟩
    rw [val_ent, hn]
    exact iteF kq
end
end K37

namespace K37
open PySem PySem.Spec PyProof.Rows L2 RZ HX TR RP AL
def fup {β : Type} (f : Int → β) (k : Int) (v : β) : Int → β := fun j => if j = k then v else f j
theorem fup_eq {β : Type} {f : Int → β} {k : Int} {v : β} : fup f k v k = v := if_pos rfl
theorem fup_ne {β : Type} {f : Int → β} {k j : Int} {v : β} (h : j ≠ k) : fup f k v j = f j := if_neg h
/-- whether it is held at once -/
def atOnce (A B : Int → List HB) (page : Int) (alone : Bool) : Bool := (B page).isEmpty && fits (A page) alone
def takeA (A B : Int → List HB) (hand page : Int) (alone : Bool) : Int → List HB := if atOnce A B page alone = true then fup A page (A page ++ [(hand, alone)]) else A
def takeB (A B : Int → List HB) (hand page : Int) (alone : Bool) : Int → List HB := if atOnce A B page alone = true then B else fup B page (B page ++ [(hand, alone)])
def takeW (A B : Int → List HB) (W : Int → Option Int) (hand page : Int) (alone : Bool) : Int → Option Int := if atOnce A B page alone = true then W else fup W hand (some page)
theorem nodup_snoc {xs : List Int} {x : Int} (nd : xs.Nodup) (h : x ∉ xs) : (xs ++ [x]).Nodup :=
  List.nodup_iff_pairwise_ne.mpr (List.pairwise_append.mpr ⟨List.nodup_iff_pairwise_ne.mp nd, List.pairwise_singleton .., fun a ha b hb e => h (by rw [← List.mem_singleton.mp hb, ← e]; exact ha)⟩)
theorem okk_take {P HH : List Int} {A B : Int → List HB} {W : Int → Option Int} (o : Okk P HH A B W) {hand page : Int} {alone : Bool} (hh : hand ∈ HH) (hp : page ∈ P) (hw : W hand = none) (hn : hand ∉ (A page).map (·.1)) : Okk P HH (takeA A B hand page alone) (takeB A B hand page alone) (takeW A B W hand page alone) := by
  have nb : ∀ p, hand ∉ (B p).map (·.1) := fun p m => by
    have z := (o.ww hand p).mpr m
    rw [hw] at z
    cases z
  unfold takeA takeB takeW
  by_cases c : atOnce A B page alone = true
  · rw [if_pos c, if_pos c, if_pos c]
    have be : B page = [] := by
      unfold atOnce at c
      have z := (Bool.and_eq_true_iff.mp c).1
      exact List.isEmpty_iff.mp z
    refine { o with pa := fun p hp' => ?_, ha := fun p q hq => ?_, na := fun p => ?_, ab := fun p q hq => ?_ }
    · by_cases e : p = page
      · rw [e]; exact hp
      · rw [fup_ne e] at hp'
        exact o.pa p hp'
    · by_cases e : p = page
      · rw [e, fup_eq] at hq
        rcases List.mem_append.mp hq with h | h
        · exact o.ha _ q h
        · rw [List.mem_singleton.mp h]; exact hh
      · rw [fup_ne e] at hq
        exact o.ha p q hq
    · by_cases e : p = page
      · rw [e, fup_eq, List.map_append]
        exact nodup_snoc (o.na page) hn
      · rw [fup_ne e]
        exact o.na p
    · by_cases e : p = page
      · rw [e, be]
        exact List.not_mem_nil
      · rw [fup_ne e] at hq
        exact o.ab p q hq
  · rw [if_neg c, if_neg c, if_neg c]
    refine { o with pb := fun p hp' => ?_, hb := fun p q hq => ?_, nb := fun p => ?_, ww := fun h p => ?_, ab := fun p q hq => ?_ }
    · by_cases e : p = page
      · rw [e]; exact hp
      · rw [fup_ne e] at hp'
        exact o.pb p hp'
    · by_cases e : p = page
      · rw [e, fup_eq] at hq
        rcases List.mem_append.mp hq with h | h
        · exact o.hb _ q h
        · rw [List.mem_singleton.mp h]; exact hh
      · rw [fup_ne e] at hq
        exact o.hb p q hq
    · by_cases e : p = page
      · rw [e, fup_eq, List.map_append]
        exact nodup_snoc (o.nb page) (nb page)
      · rw [fup_ne e]
        exact o.nb p
    · by_cases eh : h = hand
      · rw [eh, fup_eq]
        by_cases e : p = page
        · rw [e, fup_eq, List.map_append]
          exact ⟨fun _ => List.mem_append_right _ (List.mem_cons_self ..), fun _ => rfl⟩
        · rw [fup_ne e]
          exact ⟨fun z => absurd (Option.some.inj z).symm e, fun z => absurd z (nb p)⟩
      · rw [fup_ne eh]
        by_cases e : p = page
        · rw [e, fup_eq, List.map_append, List.mem_append]
          rw [o.ww h page]
          exact ⟨.inl, fun z => z.elim id fun z => absurd (List.mem_singleton.mp z) eh⟩
        · rw [fup_ne e]
          exact o.ww h p
    · by_cases e : p = page
      · rw [e] at hq
        rw [e, fup_eq, List.map_append, List.mem_append]
        exact fun z => z.elim (o.ab page q hq) fun z => hn (by have z' : q.1 = hand := List.mem_singleton.mp z; rw [← z']; exact List.mem_map_of_mem (f := (·.1)) hq)
      · rw [fup_ne e]
        exact o.ab p q hq
/-- latches at s, whatever its parts are; none of a page that nobody holds, or waits for -/
def Lat (K : PySem.W.Frag) (H : Hp) (s : Addr) (F : List Addr) (A B : Int → List HB) (W : Int → Option Int) : Prop := ∃ dx a b c ds ls ws, LatAt K H s F A B W dx a b c ds ls ws ∧ (∀ q ∈ ds, A q.1 ≠ []) ∧ ∀ q ∈ ls, B q.1 ≠ []
theorem upd_id {H : Hp} {a : Addr} {o : HO} (h : H a = some o) : upd H a o = H := funext fun b => by
  by_cases c : b = a
  · rw [c, upd_same, h]
  · rw [upd_ne c]
theorem upd_comm {H : Hp} {a e : Addr} {x y : HO} (n : a ≠ e) : upd (upd H a x) e y = upd (upd H e y) a x := funext fun b => by
  by_cases c : b = e
  · rw [c, upd_same, upd_ne n.symm, upd_same]
  · rw [upd_ne c]
    by_cases d : b = a
    · rw [d, upd_same, upd_same]
    · rw [upd_ne d, upd_ne d, upd_ne c]
section
variable {K : PySem.W.Frag} {H : Hp} {s : Addr} {F : List Addr} {A B : Int → List HB} {W : Int → Option Int} {dx a b c : Addr} {ds ls : List (Int × Addr)} {ws : List (Int × Int)}
structure Apart (s a b c : Addr) (ds ls : List (Int × Addr)) : Prop where
  sa : s ≠ a
  sb : s ≠ b
  sc : s ≠ c
  ab : a ≠ b
  ac : a ≠ c
  bc : b ≠ c
  sd : ∀ q ∈ ds, q.2 ≠ s ∧ q.2 ≠ a ∧ q.2 ≠ b ∧ q.2 ≠ c
  sl : ∀ q ∈ ls, q.2 ≠ s ∧ q.2 ≠ a ∧ q.2 ≠ b ∧ q.2 ≠ c
  dl : ∀ q ∈ ds, ∀ r ∈ ls, q.2 ≠ r.2
  dd : ∀ q ∈ ds, ∀ r ∈ ds, q.2 = r.2 → q = r
  ll : ∀ q ∈ ls, ∀ r ∈ ls, q.2 = r.2 → q = r
theorem snd_inj {es : List (Int × Addr)} (nd : (es.map (·.2)).Nodup) : ∀ q ∈ es, ∀ r ∈ es, q.2 = r.2 → q = r := by
  induction es with
  | nil => intro q hq; cases hq
  | cons z es ih =>
    rw [List.map_cons] at nd
    obtain ⟨n1, n2⟩ := List.nodup_cons.mp nd
    intro q hq r hr e
    rcases List.mem_cons.mp hq with eq | hq
    · rcases List.mem_cons.mp hr with er | hr
      · rw [eq, er]
      · exact absurd (by rw [← eq, e]; exact List.mem_map_of_mem (f := (·.2)) hr) n1
    · rcases List.mem_cons.mp hr with er | hr
      · exact absurd (by rw [← er, ← e]; exact List.mem_map_of_mem (f := (·.2)) hq) n1
      · exact ih n2 q hq r hr e
theorem LatAt.apart (x : LatAt K H s F A B W dx a b c ds ls ws) : Apart s a b c ds ls := by
  have nf := x.nf
  rw [x.f] at nf
  obtain ⟨n1, nf⟩ := List.nodup_cons.mp nf
  obtain ⟨n2, nf⟩ := List.nodup_cons.mp nf
  obtain ⟨n3, nf⟩ := List.nodup_cons.mp nf
  obtain ⟨n4, nf⟩ := List.nodup_cons.mp nf
  obtain ⟨n5, n6, n7⟩ := List.pairwise_append.mp (List.nodup_iff_pairwise_ne.mp nf)
  simp only [List.mem_cons, List.mem_append, not_or] at n1 n2 n3 n4
  have md : ∀ q ∈ ds, q.2 ∈ ds.map (·.2) := fun q hq => List.mem_map_of_mem hq
  have ml : ∀ q ∈ ls, q.2 ∈ ls.map (·.2) := fun q hq => List.mem_map_of_mem hq
  exact ⟨n1.1, n1.2.1, n1.2.2.1, n2.1, n2.2.1, n3.1,
    fun q hq => ⟨fun e => n1.2.2.2.1 (e ▸ md q hq), fun e => n2.2.2.1 (e ▸ md q hq), fun e => n3.2.1 (e ▸ md q hq), fun e => n4.1 (e ▸ md q hq)⟩,
    fun q hq => ⟨fun e => n1.2.2.2.2 (e ▸ ml q hq), fun e => n2.2.2.2 (e ▸ ml q hq), fun e => n3.2.2 (e ▸ ml q hq), fun e => n4.2 (e ▸ ml q hq)⟩,
    fun q hq r hr e => n7 _ (md q hq) _ (ml r hr) e, snd_inj (List.nodup_iff_pairwise_ne.mpr n5), snd_inj (List.nodup_iff_pairwise_ne.mpr n6)⟩
theorem keep_dk {p : Addr} {es fs : List (Key × V)} (h : H p = some (.dK es)) : Keep H (upd H p (.dK fs)) := (Keep.refl H).upd fun u e => by rw [h] at e; cases e; rfl
/-- the holders of a page, in their dict -/
theorem LatAt.set_hold (x : LatAt K H s F A B W dx a b c ds ls ws) {page : Int} {d : Addr} {hs' : List HB} (m : (page, d) ∈ ds) : LatAt K (upd H d (.dK (hs'.map (ent V.bl)))) s F (fup A page hs') B W dx a b c ds ls ws := by
  have ap := x.apart
  have nd := ap.sd _ m
  have k := keep_dk (fs := hs'.map (ent V.bl)) (x.dd _ m)
  refine { x with hs := by rw [upd_ne nd.1.symm]; exact x.hs, ha := by rw [upd_ne nd.2.1.symm]; exact x.ha, hb := by rw [upd_ne nd.2.2.1.symm]; exact x.hb, hc := by rw [upd_ne nd.2.2.2.symm]; exact x.hc, dd := fun q hq => ?_, dn := fun p hp => ?_, ll := fun q hq => ?_ }
  · by_cases e : q.1 = page
    · have eq : q = (page, d) := by
        have z1 := mem_alk x.nd (show (q.1, q.2) ∈ ds from hq)
        have z2 := mem_alk x.nd m
        rw [e, z2] at z1
        have z3 := Option.some.inj z1
        rw [Prod.ext_iff]
        exact ⟨e, z3.symm⟩
      rw [eq, fup_eq]
      exact upd_same
    · rw [fup_ne e]
      show upd H d _ q.2 = _
      rw [upd_ne (fun z => e (by rw [ap.dd q hq _ m z]))]
      exact x.dd q hq
  · rw [fup_ne (fun e => hp (by rw [e]; exact List.mem_map_of_mem (f := (·.1)) m))]
    exact x.dn p hp
  · obtain ⟨xs, h1, h2⟩ := x.ll q hq
    exact ⟨xs, by rw [upd_ne (fun z => ap.dl _ m q hq z.symm)]; exact h1, paired_imp (fun _ _ r => HbAt.keep k r) h2⟩
theorem perm_nodup_snoc {α : Type} {xs ys zs : List α} {e : α} (h : (xs ++ (ys ++ zs)).Nodup) (n : e ∉ xs ++ (ys ++ zs)) : (xs ++ ((ys ++ [e]) ++ zs)).Nodup := by
  have p : (xs ++ ((ys ++ [e]) ++ zs)).Perm (e :: (xs ++ (ys ++ zs))) := by
    rw [List.append_assoc]
    exact (List.Perm.append_left xs (List.perm_middle (l₁ := ys) (a := e) (l₂ := zs))).trans List.perm_middle
  exact p.nodup_iff.mpr (List.nodup_cons.mpr ⟨n, h⟩)
/-- a page that nobody held is held -/
theorem LatAt.add_hold (x : LatAt K H s F A B W dx a b c ds ls ws) {page : Int} {e : Addr} {hs' : List HB} (he : HdAt H e hs') (n : e ∉ F) (np : page ∉ ds.map (·.1)) : LatAt K (upd H a (.dK ((ds ++ [(page, e)]).map (ent V.ref)))) s (s :: a :: b :: c :: ((ds ++ [(page, e)]).map (·.2) ++ ls.map (·.2))) (fup A page hs') B W dx a b c (ds ++ [(page, e)]) ls ws := by
  have ap := x.apart
  have k := keep_dk (fs := (ds ++ [(page, e)]).map (ent V.ref)) x.ha
  rw [x.f] at n
  have nea : e ≠ a := fun z => n (by rw [z]; simp)
  refine ⟨by rw [upd_ne ap.sa]; exact x.hs, upd_same, by rw [upd_ne ap.ab.symm]; exact x.hb, by rw [upd_ne ap.ac.symm]; exact x.hc, ?_, x.nl, x.nw, fun q hq => ?_, fun p hp => ?_, fun q hq => ?_, x.ln, x.wd, rfl, ?_⟩
  · rw [List.map_append]
    exact nodup_snoc x.nd np
  · rcases List.mem_append.mp hq with h | h
    · have ne : q.1 ≠ page := fun z => np (by rw [← z]; exact List.mem_map_of_mem (f := (·.1)) h)
      rw [fup_ne ne]
      show upd H a _ q.2 = _
      rw [upd_ne (ap.sd q h).2.1]
      exact x.dd q h
    · rw [List.mem_singleton.mp h, fup_eq]
      show upd H a _ e = _
      rw [upd_ne nea]
      exact he
  · rw [List.map_append, List.mem_append, not_or] at hp
    rw [fup_ne (fun z => hp.2 (by rw [z]; exact List.mem_cons_self ..))]
    exact x.dn p hp.1
  · obtain ⟨xs, h1, h2⟩ := x.ll q hq
    exact ⟨xs, by rw [upd_ne (ap.sl q hq).2.1]; exact h1, paired_imp (fun _ _ r => HbAt.keep k r) h2⟩
  · have nf := x.nf
    rw [x.f] at nf
    have z := perm_nodup_snoc (xs := [s, a, b, c]) (ys := ds.map fun x : Int × Addr => x.2) (zs := ls.map fun x : Int × Addr => x.2) nf n
    rw [List.map_append]
    exact z
theorem put_snd {l' : Addr} {page : Int} : ∀ {es : List (Int × Addr)}, (es.map (·.1)).Nodup → (es.map (·.2)).Nodup → l' ∉ es.map (·.2) → ((aput es page l').map (·.2)).Nodup := by
  intro es n1 n2 n3
  by_cases c : page ∈ es.map (·.1)
  · unfold aput
    rw [if_pos c]
    clear c
    induction es with
    | nil => exact List.nodup_nil
    | cons q es ih =>
      rw [List.map_cons] at n1 n2
      obtain ⟨a1, a2⟩ := List.nodup_cons.mp n1
      obtain ⟨b1, b2⟩ := List.nodup_cons.mp n2
      rw [List.map_cons, List.mem_cons, not_or] at n3
      rw [List.map_cons, List.map_cons]
      refine List.nodup_cons.mpr ⟨fun h => ?_, ih a2 b2 n3.2⟩
      obtain ⟨r, hr, e⟩ := List.mem_map.mp h
      obtain ⟨r0, hr0, e0⟩ := List.mem_map.mp hr
      by_cases cq : q.1 = page
      · rw [if_pos cq] at e
        by_cases c0 : r0.1 = page
        · exact a1 (by rw [cq, ← c0]; exact List.mem_map_of_mem (f := (·.1)) hr0)
        · rw [if_neg c0] at e0
          rw [← e0] at e
          exact n3.2 (by rw [← show r0.2 = l' from e]; exact List.mem_map_of_mem (f := (·.2)) hr0)
      · rw [if_neg cq] at e
        by_cases c0 : r0.1 = page
        · rw [if_pos c0] at e0
          rw [← e0] at e
          exact n3.1 e
        · rw [if_neg c0] at e0
          rw [← e0] at e
          exact b1 (by rw [← e]; exact List.mem_map_of_mem (f := (·.2)) hr0)
  · unfold aput
    rw [if_neg c, List.map_append]
    refine List.nodup_iff_pairwise_ne.mpr (List.pairwise_append.mpr ⟨List.nodup_iff_pairwise_ne.mp n2, List.pairwise_singleton .., fun u hu v hv e => n3 ?_⟩)
    have ev : v = l' := List.mem_singleton.mp hv
    rw [← ev, ← e]
    exact hu
theorem nodup4 {s a b c : Addr} {xs ys : List Addr} (h1 : [s, a, b, c].Nodup) (h2 : xs.Nodup) (h3 : ys.Nodup) (h4 : ∀ x ∈ xs, ∀ y ∈ ys, x ≠ y) (h5 : ∀ x ∈ xs, x ≠ s ∧ x ≠ a ∧ x ≠ b ∧ x ≠ c) (h6 : ∀ x ∈ ys, x ≠ s ∧ x ≠ a ∧ x ≠ b ∧ x ≠ c) : (s :: a :: b :: c :: (xs ++ ys)).Nodup := by
  have z : ([s, a, b, c] ++ (xs ++ ys)).Nodup := List.nodup_iff_pairwise_ne.mpr (List.pairwise_append.mpr ⟨List.nodup_iff_pairwise_ne.mp h1, List.pairwise_append.mpr ⟨List.nodup_iff_pairwise_ne.mp h2, List.nodup_iff_pairwise_ne.mp h3, h4⟩, fun u hu v hv e => by
    have w : v ≠ s ∧ v ≠ a ∧ v ≠ b ∧ v ≠ c := (List.mem_append.mp hv).elim (h5 v) (h6 v)
    simp only [List.mem_cons, List.not_mem_nil, or_false] at hu
    rcases hu with r | r | r | r
    · exact w.1 (e.symm.trans r)
    · exact w.2.1 (e.symm.trans r)
    · exact w.2.2.1 (e.symm.trans r)
    · exact w.2.2.2 (e.symm.trans r)⟩)
  exact z
theorem Apart.four (ap : Apart s a b c ds ls) : [s, a, b, c].Nodup := by simp [ap.sa, ap.sb, ap.sc, ap.ab, ap.ac, ap.bc]
theorem LatAt.vals (x : LatAt K H s F A B W dx a b c ds ls ws) : (ds.map (·.2)).Nodup ∧ (ls.map (·.2)).Nodup := by
  have nf := x.nf
  rw [x.f] at nf
  have z : ([s, a, b, c] ++ (ds.map (·.2) ++ ls.map (·.2))).Nodup := nf
  obtain ⟨_, z2, _⟩ := List.pairwise_append.mp (List.nodup_iff_pairwise_ne.mp z)
  obtain ⟨z3, z4, _⟩ := List.pairwise_append.mp z2
  exact ⟨List.nodup_iff_pairwise_ne.mpr z3, List.nodup_iff_pairwise_ne.mpr z4⟩
/-- a page has another queue -/
theorem LatAt.put_line (x : LatAt K H s F A B W dx a b c ds ls ws) {page : Int} {l : Addr} {qs : List HB} (hq : QuAt H l qs) (n : l ∉ F) : LatAt K (upd H b (.dK ((aput ls page l).map (ent V.ref)))) s (s :: a :: b :: c :: (ds.map (·.2) ++ (aput ls page l).map (·.2))) A (fup B page qs) W dx a b c ds (aput ls page l) ws := by
  have ap := x.apart
  have k := keep_dk (fs := (aput ls page l).map (ent V.ref)) x.hb
  rw [x.f] at n
  simp only [List.mem_cons, List.mem_append, not_or] at n
  refine ⟨by rw [upd_ne ap.sb]; exact x.hs, by rw [upd_ne ap.ab]; exact x.ha, upd_same, by rw [upd_ne ap.bc.symm]; exact x.hc, x.nd, put_nodup x.nl, x.nw, fun q hq' => ?_, x.dn, fun q hq' => ?_, fun p hp => ?_, x.wd, rfl, ?_⟩
  · show upd H b _ q.2 = _
    rw [upd_ne (ap.sd q hq').2.2.1]
    exact x.dd q hq'
  · rcases put_mem hq' with e | ⟨h, ne⟩
    · rw [e, fup_eq]
      obtain ⟨xs, h1, h2⟩ := hq
      exact ⟨xs, by rw [upd_ne n.2.2.1]; exact h1, paired_imp (fun _ _ r => HbAt.keep k r) h2⟩
    · rw [fup_ne ne]
      obtain ⟨xs, h1, h2⟩ := x.ll q h
      exact ⟨xs, by rw [upd_ne (ap.sl q h).2.2.1]; exact h1, paired_imp (fun _ _ r => HbAt.keep k r) h2⟩
  · rw [put_keys] at hp
    by_cases e : page ∈ ls.map (·.1)
    · rw [if_pos e] at hp
      rw [fup_ne (fun z => hp (by rw [z]; exact e))]
      exact x.ln p hp
    · rw [if_neg e, List.mem_append, not_or] at hp
      rw [fup_ne (fun z => hp.2 (by rw [z]; exact List.mem_cons_self ..))]
      exact x.ln p hp.1
  · refine nodup4 ap.four x.vals.1 (put_snd x.nl x.vals.2 n.2.2.2.2.2) (fun u hu v hv => ?_) (fun u hu => ?_) (fun u hu => ?_)
    · obtain ⟨q, hq', rfl⟩ := List.mem_map.mp hu
      obtain ⟨r, hr', rfl⟩ := List.mem_map.mp hv
      rcases put_mem hr' with e | ⟨h, _⟩
      · rw [e]
        exact fun z => n.2.2.2.2.1 (by have z' : q.2 = l := z; rw [← z']; exact List.mem_map_of_mem (f := (·.2)) hq')
      · exact ap.dl q hq' r h
    · obtain ⟨q, hq', rfl⟩ := List.mem_map.mp hu
      exact ap.sd q hq'
    · obtain ⟨q, hq', rfl⟩ := List.mem_map.mp hu
      rcases put_mem hq' with e | ⟨h, _⟩
      · rw [e]
        exact ⟨n.1, n.2.1, n.2.2.1, n.2.2.2.1⟩
      · exact ap.sl q h
/-- a page's queue, in its list -/
theorem LatAt.set_line (x : LatAt K H s F A B W dx a b c ds ls ws) {page : Int} {l : Addr} {qs : List HB} {xs : List V} (m : (page, l) ∈ ls) (hp : Paired (HbAt H) xs qs) : LatAt K (upd H l (.lst xs)) s F A (fup B page qs) W dx a b c ds ls ws := by
  have ap := x.apart
  have nl := ap.sl _ m
  obtain ⟨ys, hy, _⟩ := x.ll _ m
  have k : Keep H (upd H l (.lst xs)) := (Keep.refl H).upd fun u e => by rw [hy] at e; cases e; rfl
  refine { x with hs := by rw [upd_ne nl.1.symm]; exact x.hs, ha := by rw [upd_ne nl.2.1.symm]; exact x.ha, hb := by rw [upd_ne nl.2.2.1.symm]; exact x.hb, hc := by rw [upd_ne nl.2.2.2.symm]; exact x.hc, dd := fun q hq => ?_, ll := fun q hq => ?_, ln := fun p hp' => ?_ }
  · show upd H l _ q.2 = _
    rw [upd_ne (ap.dl q hq _ m)]
    exact x.dd q hq
  · by_cases e : q.1 = page
    · have eq : q = (page, l) := by
        have z1 := mem_alk x.nl (show (q.1, q.2) ∈ ls from hq)
        have z2 := mem_alk x.nl m
        rw [e, z2] at z1
        rw [Prod.ext_iff]
        exact ⟨e, (Option.some.inj z1).symm⟩
      rw [eq, fup_eq]
      exact ⟨xs, upd_same, paired_imp (fun _ _ r => HbAt.keep k r) hp⟩
    · rw [fup_ne e]
      obtain ⟨zs, h1, h2⟩ := x.ll q hq
      exact ⟨zs, by rw [upd_ne (fun z => e (by rw [ap.ll q hq _ m z]))]; exact h1, paired_imp (fun _ _ r => HbAt.keep k r) h2⟩
  · rw [fup_ne (fun e => hp' (by rw [e]; exact List.mem_map_of_mem (f := (·.1)) m))]
    exact x.ln p hp'
theorem LatAt.put_want (x : LatAt K H s F A B W dx a b c ds ls ws) {hand page : Int} : LatAt K (upd H c (.dK ((aput ws hand page).map (ent V.int)))) s F A B (fup W hand (some page)) dx a b c ds ls (aput ws hand page) := by
  have ap := x.apart
  have k := keep_dk (fs := (aput ws hand page).map (ent V.int)) x.hc
  refine { x with hs := by rw [upd_ne ap.sc]; exact x.hs, ha := by rw [upd_ne ap.ac]; exact x.ha, hb := by rw [upd_ne ap.bc]; exact x.hb, hc := upd_same, nw := put_nodup x.nw, dd := fun q hq => ?_, ll := fun q hq => ?_, wd := fun h => ?_ }
  · show upd H c _ q.2 = _
    rw [upd_ne (ap.sd q hq).2.2.2]
    exact x.dd q hq
  · obtain ⟨xs, h1, h2⟩ := x.ll q hq
    exact ⟨xs, by rw [upd_ne (ap.sl q hq).2.2.2]; exact h1, paired_imp (fun _ _ r => HbAt.keep k r) h2⟩
  · rw [alk_put]
    by_cases e : h = hand
    · rw [if_pos e, e, fup_eq]
    · rw [if_neg e, fup_ne e, x.wd]
theorem LatAt.del_want (x : LatAt K H s F A B W dx a b c ds ls ws) {hand : Int} : LatAt K (upd H c (.dK ((adel ws hand).map (ent V.int)))) s F A B (fup W hand none) dx a b c ds ls (adel ws hand) := by
  have ap := x.apart
  have k := keep_dk (fs := (adel ws hand).map (ent V.int)) x.hc
  refine { x with hs := by rw [upd_ne ap.sc]; exact x.hs, ha := by rw [upd_ne ap.ac]; exact x.ha, hb := by rw [upd_ne ap.bc]; exact x.hb, hc := upd_same, nw := del_nodup x.nw, dd := fun q hq => ?_, ll := fun q hq => ?_, wd := fun h => ?_ }
  · show upd H c _ q.2 = _
    rw [upd_ne (ap.sd q hq).2.2.2]
    exact x.dd q hq
  · obtain ⟨xs, h1, h2⟩ := x.ll q hq
    exact ⟨xs, by rw [upd_ne (ap.sl q hq).2.2.2]; exact h1, paired_imp (fun _ _ r => HbAt.keep k r) h2⟩
  · rw [alk_del]
    by_cases e : h = hand
    · rw [if_pos e, e, fup_eq]
    · rw [if_neg e, fup_ne e, x.wd]
theorem del_sub {es : List (Int × Addr)} {k : Int} : ((adel es k).map (·.2)).Sublist (es.map (·.2)) := List.Sublist.map _ List.filter_sublist
theorem LatAt.del_hold (x : LatAt K H s F A B W dx a b c ds ls ws) {page : Int} (e : A page = []) : LatAt K (upd H a (.dK ((adel ds page).map (ent V.ref)))) s (s :: a :: b :: c :: ((adel ds page).map (·.2) ++ ls.map (·.2))) A B W dx a b c (adel ds page) ls ws := by
  have ap := x.apart
  have k := keep_dk (fs := (adel ds page).map (ent V.ref)) x.ha
  refine ⟨by rw [upd_ne ap.sa]; exact x.hs, upd_same, by rw [upd_ne ap.ab.symm]; exact x.hb, by rw [upd_ne ap.ac.symm]; exact x.hc, del_nodup x.nd, x.nl, x.nw, fun q hq => ?_, fun p hp => ?_, fun q hq => ?_, x.ln, x.wd, rfl, ?_⟩
  · have hq := (del_mem hq).1
    show upd H a _ q.2 = _
    rw [upd_ne (ap.sd q hq).2.1]
    exact x.dd q hq
  · by_cases ep : p = page
    · rw [ep, e]
    · have z := alk_none.mpr hp
      rw [alk_del, if_neg ep] at z
      exact x.dn p (alk_none.mp z)
  · obtain ⟨xs, h1, h2⟩ := x.ll q hq
    exact ⟨xs, by rw [upd_ne (ap.sl q hq).2.1]; exact h1, paired_imp (fun _ _ r => HbAt.keep k r) h2⟩
  · refine nodup4 ap.four (x.vals.1.sublist del_sub) x.vals.2 (fun u hu v hv => ?_) (fun u hu => ?_) (fun u hu => ?_)
    · obtain ⟨q, hq', rfl⟩ := List.mem_map.mp (del_sub.subset hu)
      obtain ⟨r, hr', rfl⟩ := List.mem_map.mp hv
      exact ap.dl q hq' r hr'
    · obtain ⟨q, hq', rfl⟩ := List.mem_map.mp (del_sub.subset hu)
      exact ap.sd q hq'
    · obtain ⟨q, hq', rfl⟩ := List.mem_map.mp hu
      exact ap.sl q hq'
theorem LatAt.del_line (x : LatAt K H s F A B W dx a b c ds ls ws) {page : Int} (e : B page = []) : LatAt K (upd H b (.dK ((adel ls page).map (ent V.ref)))) s (s :: a :: b :: c :: (ds.map (·.2) ++ (adel ls page).map (·.2))) A B W dx a b c ds (adel ls page) ws := by
  have ap := x.apart
  have k := keep_dk (fs := (adel ls page).map (ent V.ref)) x.hb
  refine ⟨by rw [upd_ne ap.sb]; exact x.hs, by rw [upd_ne ap.ab]; exact x.ha, upd_same, by rw [upd_ne ap.bc.symm]; exact x.hc, x.nd, del_nodup x.nl, x.nw, fun q hq => ?_, x.dn, fun q hq => ?_, fun p hp => ?_, x.wd, rfl, ?_⟩
  · show upd H b _ q.2 = _
    rw [upd_ne (ap.sd q hq).2.2.1]
    exact x.dd q hq
  · have hq := (del_mem hq).1
    obtain ⟨xs, h1, h2⟩ := x.ll q hq
    exact ⟨xs, by rw [upd_ne (ap.sl q hq).2.2.1]; exact h1, paired_imp (fun _ _ r => HbAt.keep k r) h2⟩
  · by_cases ep : p = page
    · rw [ep, e]
    · have z := alk_none.mpr hp
      rw [alk_del, if_neg ep] at z
      exact x.ln p (alk_none.mp z)
  · refine nodup4 ap.four x.vals.1 (x.vals.2.sublist del_sub) (fun u hu v hv => ?_) (fun u hu => ?_) (fun u hu => ?_)
    · obtain ⟨q, hq', rfl⟩ := List.mem_map.mp hu
      obtain ⟨r, hr', rfl⟩ := List.mem_map.mp (del_sub.subset hv)
      exact ap.dl q hq' r hr'
    · obtain ⟨q, hq', rfl⟩ := List.mem_map.mp hu
      exact ap.sd q hq'
    · obtain ⟨q, hq', rfl⟩ := List.mem_map.mp (del_sub.subset hu)
      exact ap.sl q hq'
end
end K37

namespace K37
open PySem PySem.Spec PyProof.Rows L2 RZ HX TR RP AL
section
variable {P : Program} {w : World} {K : PySem.W.Frag} {mg : Str → Option Value} {base : Heap}
def sp_take (K : PySem.W.Frag) : Sp := fun vs H Q _ => ∃ (s : Addr) (F : List Addr) (A B : Int → List HB) (W : Int → Option Int) (P HH : List Int) (hand page : Int) (alone : Bool), vs = [.ref s, .int hand, .int page, .bl alone] ∧ Lat K H s F A B W ∧ Okk P HH A B W ∧ hand ∈ HH ∧ page ∈ P ∧ W hand = none ∧ hand ∉ (A page).map (·.1) ∧
  ∀ (H' : Hp) (F' : List Addr), Out F H H' → (∀ x ∈ F', x ∈ F ∨ H x = none) → Lat K H' s F' (takeA A B hand page alone) (takeB A B hand page alone) (takeW A B W hand page alone) → Q (.bl (atOnce A B page alone)) H'
theorem ok_take (T : TX K mg) : FnOk P w K mg base CX0 4 (He.ma K (He.ga K "Latches") "take") T.fd_Latches_take ["self", "hand", "page", "alone"] (sp_take K) := by
  have G_need_hand : FnOk P w K mg base CX0 3 (He.ga K "need_hand") T.fd_need_hand ["thing"] sp_need_hand := ok_need_hand T
  have b_need_hand := b_need_hand T
  have G_need_latch : FnOk P w K mg base CX0 3 (He.ga K "need_latch") T.fd_need_latch ["thing"] sp_need_latch := ok_need_latch T
  have b_need_latch := b_need_latch T
  have G_may_hold : FnOk P w K mg base CX0 1 (He.ga K "may_hold") T.fd_may_hold ["holders", "alone"] sp_may_hold := ok_may_hold T
  have b_may_hold := b_may_hold T
  have G_Latches_need_no_wait : FnOk P w K mg base CX0 1 (He.ma K (He.ga K "Latches") "need_no_wait") T.fd_Latches_need_no_wait ["self", "hand"] (sp_need_no_wait K) := ok_need_no_wait T
  have b_Latches_need_no_wait := b_Latches_need_no_wait T
  refine T.F_Latches_take.ok sc_Latches_take (fun vs H Q E h => ?_) (fun cdv A outer st H vs Q E hr h => ?_)
  · obtain ⟨s, F, A, B, W, P, HH, hand, page, alone, rfl, _⟩ := h
    rfl
  · obtain ⟨s, F, LA, LB, LW, PP, HH, hand, page, alone, rfl, ⟨dx, a, b, c, ds, ls, ws, x, ne1, ne2⟩, o, hh, hp, hw, hn, kq⟩ := h
    refine ⟨_, PSs.nox (pss_cons (ps_expr (pe_call G_need_hand (hr.mono (by first | decide | omega)) rfl T.g_need_hand T.F_need_hand.kp b_need_hand .nil pass0 (pa_cons (pv 1) pa_nil)))
 (pss_cons (ps_expr (pe_call G_need_latch (hr.mono (by first | decide | omega)) rfl T.g_need_latch T.F_need_latch.kp b_need_latch .nil pass0 (pa_cons (pv 2) pa_nil)))
 (pss_cons (ps_expr (pe_meth (pv 0) T.cl_Latches T.m_Latches_need_no_wait G_Latches_need_no_wait (hr.mono (by first | decide | omega)) b_Latches_need_no_wait .nil pass0 (pa_cons (pv 1) pa_nil)))
 (pss_cons (ps_set (i := 4) sc_Latches_take.nd rfl (Or.inl rfl) (pe_dget2 (hu_of hr) (pe_fld (pv 0) rfl) (pv 2) pe_dnewK ⟨rfl, rfl, rfl, rfl⟩))
 (pss_cons (ps_if (pt_cmp (pc_din (hu_of hr) (pv 1) (pv 4)))
 (pss_one ps_never)
 pss_nil)
 (Evl.pss_cut (ps_if (PW.pt (pw_and (pt_cmp (pc_dnotin (hu_of hr) (pv 2) (pe_fld (pv 0) rfl))) (pw_and1 (pt_val (pe_call G_may_hold (hr.mono (by first | decide | omega)) rfl T.g_may_hold T.F_may_hold.kp b_may_hold .nil pass0 (pa_cons (pv 4) (pa_cons (pv 3) pa_nil)))))))
 (pss_cons (ps_dput (hu_of hr) (pe_fld (pv 0) rfl) (pv 2) (pv 4) rfl)
 (pss_cons (ps_dput (hu_of hr) (pv 4) (pv 1) (pv 3) rfl)
 (pss_one (ps_ret pe_bl))))
 pss_nil)
 (pss_cons (ps_dput (hu_of hr) (pe_fld (pv 0) rfl) (pv 2) (pe_lst (StX.pa_star (pe_dget2 (hu_of hr) (pe_fld (pv 0) rfl) (pv 2) (pe_lst pa_nil) ⟨rfl, rfl, rfl, rfl⟩) (pa_cons (pe_tup (pa_cons (pv 1) (pa_cons (pv 3) pa_nil))) pa_nil))) rfl)
 (pss_cons (ps_dput (hu_of hr) (pe_fld (pv 0) rfl) (pv 1) (pv 2) rfl)
 (pss_one (ps_ret pe_bl)))))))))), ?_⟩
    refine ⟨_, rfl, hand, rfl, (o.hr hand hh).1, (o.hr hand hh).2, ?_⟩
    refine ⟨_, rfl, page, rfl, (o.pr page hp).1, (o.pr page hp).2, ?_⟩
    refine ⟨_, rfl, s, dx, _, rfl, x.hs, rfl, _, rfl, s, hand, dx, a, b, c, ws, rfl, x.hs, x.hc, by rw [x.wd]; exact hw, ?_⟩
    refine ⟨_, rfl, s, _, dx, _, _, rfl, x.hs, T.cl_Latches, T.na_Latches_holding, lf_h, a, rfl, .inl ⟨_, .inl x.ha⟩, _, rfl, fun e he => ?_⟩
    have s1 := same_new (o := .dK []) he
    have he1 : upd H e (.dK []) e = some (.dK []) := upd_same
    have x1 := x.same s1
    generalize upd H e (.dK []) = H1 at s1 he1 x1
    refine ⟨_, DGet.k (k := .inl page) x1.ha, ?_⟩
    obtain ⟨hd, ehd, hhd, hcase⟩ : ∃ hd, ((valV (ds.map (ent V.ref)) (.inl page)).getD (.ref e)) = .ref hd ∧ HdAt H1 hd (LA page) ∧ ((page, hd) ∈ ds ∨ (hd = e ∧ page ∉ ds.map (·.1) ∧ LA page = [])) := by
      rcases x1.get_hold page with ⟨d, h1, h2, h3⟩ | ⟨h1, h2, h3⟩
      · exact ⟨d, by rw [h2]; rfl, h3, .inl h1⟩
      · exact ⟨e, by rw [h2]; rfl, by rw [h3]; exact he1, .inr ⟨rfl, alk_none.mp h1, h3⟩⟩
    rw [ehd]
    have hhd' : H1 hd = some (.dK ((LA page).map (ent V.bl))) := hhd
    refine ⟨_, rfl, _, rfl, hd, _, rfl, DGet.k (k := .inl hand) hhd', _, rfl, ?_⟩
    rw [val_ent, alk_none.mpr hn]
    refine iteF ?_
    refine ⟨fun σ' H' => σ' = [some (.ref s), some (.int hand), some (.int page), some (.bl alone), some (.ref hd)] ∧ Same H1 H' ∧ atOnce LA LB page alone = false, ?_, ?_⟩
    · refine ⟨_, rfl, _, rfl, s, _, dx, _, _, rfl, x1.hs, T.cl_Latches, T.na_Latches_lines, lf_l, b, _, rfl, DGet.k (k := .inl page) x1.hb, _, rfl, ?_⟩
      rcases x1.get_line page with ⟨ld, l1, l2, l3⟩ | ⟨l1, l2, l3⟩
      · rw [l2]
        refine iteF (iteF ⟨rfl, Same.refl H1, ?_⟩)
        have bn := ne2 _ l1
        unfold atOnce
        cases hb : LB page with
        | nil => exact absurd hb bn
        | cons _ _ => rfl
      · rw [l2]
        refine iteT ⟨_, rfl, _, rfl, hd, LA page, alone, rfl, hhd, fun H2 s2 => ⟨_, rfl, ?_⟩⟩
        have ea : atOnce LA LB page alone = fits (LA page) alone := by
          unfold atOnce
          rw [l3]
          rfl
        cases hf : fits (LA page) alone with
        | false => exact iteF ⟨rfl, s2, by rw [ea, hf]⟩
        | true =>
          rw [hf] at ea
          have x2 := x1.same s2
          have hhd2 : H2 hd = some (.dK ((LA page).map (ent V.bl))) := s2 _ _ hhd
          have s02 := s1.trans s2
          refine iteT ⟨_, rfl, _, rfl, s, _, dx, _, _, rfl, x2.hs, T.cl_Latches, T.na_Latches_holding, lf_h, _, rfl, a, _, rfl, DPut.k (k := .inl page) x2.ha ?_, ?_⟩
          · rw [List.length_map]
            exact Nat.lt_of_le_of_lt (x2.dl o ne1) (by decide)
          rw [put_ent (f := V.ref)]
          have hda : hd ≠ a := fun z => by
            rw [z, x2.ha] at hhd2
            have z2 := congrArg (fun o : Option HO => match o with | some (.dK es) => es | _ => []) hhd2
            rcases hcase with m | ⟨e1, _⟩
            · exact (x2.apart.sd _ m).2.1 z
            · rw [← e1, z, x.ha] at he
              cases he
          have hal : alk (LA page) hand = none := alk_none.mpr hn
          refine ⟨_, rfl, _, rfl, _, rfl, hd, _, rfl, DPut.k (k := .inl hand) (show upd H2 a _ hd = some (.dK ((LA page).map (ent V.bl))) by rw [upd_ne hda]; exact hhd2) ?_, ?_⟩
          · rw [List.length_map]
            exact Nat.lt_of_le_of_lt (o.al page) (by decide)
          rw [put_ent (f := V.bl), aput_new hal]
          have eA : takeA LA LB hand page alone = fup LA page (LA page ++ [(hand, alone)]) := by unfold takeA; rw [if_pos ea]
          have eB : takeB LA LB hand page alone = LB := by unfold takeB; rw [if_pos ea]
          have eW : takeW LA LB LW hand page alone = LW := by unfold takeW; rw [if_pos ea]
          rw [ea] at kq
          have ne' : ∀ q : Int × Addr, q.1 ≠ page → q ∈ ds → fup LA page (LA page ++ [(hand, alone)]) q.1 ≠ [] := fun q e m => by rw [fup_ne e]; exact ne1 q m
          have ne0 : fup LA page (LA page ++ [(hand, alone)]) page ≠ [] := by rw [fup_eq]; exact List.append_ne_nil_of_right_ne_nil _ (List.cons_ne_nil _ _)
          rcases hcase with m | ⟨e1, e2, e3⟩
          · have eds : aput ds page hd = ds := by
              have mk : page ∈ ds.map (·.1) := List.mem_map_of_mem (f := (·.1)) m
              unfold aput
              rw [if_pos mk]
              refine (List.map_congr_left fun q hq => ?_).trans (List.map_id ds)
              by_cases c : q.1 = page
              · have z1 := mem_alk x.nd (show (q.1, q.2) ∈ ds from hq)
                rw [c, mem_alk x.nd m] at z1
                rw [if_pos c]
                exact Prod.ext c.symm (Option.some.inj z1)
              · rw [if_neg c]
                rfl
            rw [eds, upd_id x2.ha]
            have xf := x2.set_hold (hs' := LA page ++ [(hand, alone)]) m
            refine kq _ F (((Out.of s02).upd ?_)) (fun y hy => .inl hy) ?_
            · rw [x.f]
              simp only [List.mem_cons, List.mem_append]
              exact .inr (.inr (.inr (.inr (.inl (List.mem_map_of_mem (f := (·.2)) m)))))
            · rw [eA, eB, eW]
              refine ⟨dx, a, b, c, ds, ls, ws, xf, fun q hq => ?_, ne2⟩
              by_cases e : q.1 = page
              · rw [e]; exact ne0
              · exact ne' q e hq
          · have nF : hd ∉ F := fun hm => by
              obtain ⟨oo, z, _⟩ := x.reg hd hm
              rw [e1, he] at z
              cases z
            rw [aput_new (alk_none.mpr e2)]
            rw [upd_comm hda.symm]
            have x3 := x2.out (G := [hd]) (Out.refl.upd (List.mem_cons_self ..)) (keep_dk (fs := (LA page ++ [(hand, alone)]).map (ent V.bl)) hhd2) (fun y hy z => nF (by rw [← List.mem_singleton.mp z]; exact hy))
            have xf := x3.add_hold (page := page) (e := hd) (hs' := LA page ++ [(hand, alone)]) upd_same nF e2
            refine kq _ (s :: a :: b :: c :: ((ds ++ [(page, hd)]).map (·.2) ++ ls.map (·.2))) ?_ (fun y hy => ?_) ⟨dx, a, b, c, ds ++ [(page, hd)], ls, ws, by rw [eA, eB, eW]; exact xf, fun q hq => ?_, by rw [eB]; exact ne2⟩
            · intro u ou nu e
              rw [upd_ne (fun z => nu (by rw [z, x.f]; simp)), upd_ne (fun z => by rw [z, e1, he] at e; cases e)]
              exact s02 _ _ e
            · rw [x.f]
              rcases List.mem_cons.mp hy with r | hy
              · exact .inl (by rw [r]; simp)
              rcases List.mem_cons.mp hy with r | hy
              · exact .inl (by rw [r]; simp)
              rcases List.mem_cons.mp hy with r | hy
              · exact .inl (by rw [r]; simp)
              rcases List.mem_cons.mp hy with r | hy
              · exact .inl (by rw [r]; simp)
              rw [List.map_append] at hy
              simp only [List.mem_append, List.mem_cons]
              rcases List.mem_append.mp hy with hy | hy
              · rcases List.mem_append.mp hy with hy | hy
                · exact .inl (.inr (.inr (.inr (.inr (.inl hy)))))
                · have r : y = hd := List.mem_singleton.mp hy
                  exact .inr (by rw [r, e1]; exact he)
              · exact .inl (.inr (.inr (.inr (.inr (.inr hy)))))
            · rw [eA]
              rcases List.mem_append.mp hq with h | h
              · exact ne' q (fun z => e2 (by rw [← z]; exact List.mem_map_of_mem (f := (·.1)) h)) h
              · rw [List.mem_singleton.mp h]
                exact ne0
    rintro _ H2 ⟨rfl, s2, ea⟩
    have x2 := x1.same s2
    have s02 := s1.trans s2
    refine ⟨_, rfl, s, _, dx, _, _, rfl, x2.hs, T.cl_Latches, T.na_Latches_lines, lf_l, b, rfl, .inl ⟨_, .inl x2.hb⟩, _, rfl, by show 0 ≤ sizeLine; decide, fun e' he' => ?_⟩
    have s3 := same_new (o := .lst []) he'
    have he3 : upd H2 e' (.lst []) e' = some (.lst []) := upd_same
    have x3 := x2.same s3
    generalize upd H2 e' (.lst []) = H3 at s3 he3 x3
    refine ⟨_, DGet.k (k := .inl page) x3.hb, ?_⟩
    obtain ⟨ld, eld, xs, hld, hxs⟩ : ∃ ld, ((valV (ls.map (ent V.ref)) (.inl page)).getD (.ref e')) = .ref ld ∧ QuAt H3 ld (LB page) := by
      rcases x3.get_line page with ⟨d, h1, h2, h3⟩ | ⟨h1, h2, h3⟩
      · exact ⟨d, by rw [h2]; rfl, h3⟩
      · exact ⟨e', by rw [h2]; rfl, [], he3, by rw [h3]; exact .nil⟩
    rw [eld]
    have lxs := hxs.length
    have lb := o.bl page
    refine ⟨ld, xs, rfl, .inr (SqL.of hld), _, rfl, _, rfl, by show 2 ≤ sizeLine; decide, fun t ht => ?_⟩
    have s4 := same_new (o := .tup [V.int hand, .bl alone]) ht
    have ht4 : upd H3 t (.tup [V.int hand, .bl alone]) t = some (.tup [V.int hand, .bl alone]) := upd_same
    have x4 := x3.same s4
    generalize upd H3 t (.tup [V.int hand, .bl alone]) = H4 at s4 ht4 x4
    refine ⟨?_, fun p hpn => ?_⟩
    · rw [List.length_append, lxs]
      exact Nat.le_trans (by show _ + 1 ≤ 1000; omega) (by decide)
    have s5 := same_new (o := .lst (xs ++ [V.ref t])) hpn
    have hp5 : upd H4 p (.lst (xs ++ [V.ref t])) p = some (.lst (xs ++ [V.ref t])) := upd_same
    have x5 := x4.same s5
    generalize upd H4 p (.lst (xs ++ [V.ref t])) = H5 at s5 hp5 x5
    have s25 := (s3.trans s4).trans s5
    have s05 := s02.trans s25
    have hpH : H p = none := by
      cases z : H p with
      | none => rfl
      | some u => exact absurd (s4 _ _ (s3 _ _ (s02 _ _ z))) (by rw [hpn]; simp)
    have pF : p ∉ F := fun hm => by
      obtain ⟨oo, z, _⟩ := x.reg p hm
      rw [hpH] at z
      cases z
    have x6 := x5.put_line (page := page) (l := p) (qs := LB page ++ [(hand, alone)]) ⟨_, hp5, paired_app (paired_imp (fun _ _ r => HbAt.keep (Keep.of (s4.trans s5)) r) hxs) (.cons ⟨t, rfl, s5 _ _ ht4⟩ .nil)⟩ pF
    refine ⟨_, rfl, s, _, dx, _, _, rfl, x5.hs, T.cl_Latches, T.na_Latches_lines, lf_l, _, rfl, b, _, rfl, DPut.k (k := .inl page) x5.hb ?_, ?_⟩
    · rw [List.length_map]
      exact Nat.lt_of_le_of_lt (x5.lll o ne2) (by decide)
    rw [put_ent (f := V.ref)]
    refine ⟨_, rfl, _, rfl, s, _, dx, _, _, rfl, x6.hs, T.cl_Latches, T.na_Latches_wanted, lf_w, _, rfl, c, _, rfl, DPut.k (k := .inl hand) x6.hc ?_, ?_⟩
    · rw [List.length_map]
      exact Nat.lt_of_le_of_lt (x5.wl o) (by decide)
    rw [put_ent (f := V.int)]
    have x7 := x6.put_want (hand := hand) (page := page)
    have eA : takeA LA LB hand page alone = LA := by unfold takeA; rw [if_neg (by rw [ea]; exact Bool.false_ne_true)]
    have eB : takeB LA LB hand page alone = fup LB page (LB page ++ [(hand, alone)]) := by unfold takeB; rw [if_neg (by rw [ea]; exact Bool.false_ne_true)]
    have eW : takeW LA LB LW hand page alone = fup LW hand (some page) := by unfold takeW; rw [if_neg (by rw [ea]; exact Bool.false_ne_true)]
    rw [ea] at kq
    refine kq _ _ (((Out.of s05).upd (by rw [x.f]; simp)).upd (by rw [x.f]; simp)) (fun y hy => ?_) ⟨dx, a, b, c, ds, aput ls page p, aput ws hand page, by rw [eA, eB, eW]; exact x7, by rw [eA]; exact ne1, fun q hq => ?_⟩
    · rw [x.f]
      rcases List.mem_cons.mp hy with r | hy
      · exact .inl (by rw [r]; simp)
      rcases List.mem_cons.mp hy with r | hy
      · exact .inl (by rw [r]; simp)
      rcases List.mem_cons.mp hy with r | hy
      · exact .inl (by rw [r]; simp)
      rcases List.mem_cons.mp hy with r | hy
      · exact .inl (by rw [r]; simp)
      simp only [List.mem_append, List.mem_cons]
      rcases List.mem_append.mp hy with hy | hy
      · exact .inl (.inr (.inr (.inr (.inr (.inl hy)))))
      · obtain ⟨q, hq, rfl⟩ := List.mem_map.mp hy
        rcases put_mem hq with r | ⟨r, _⟩
        · exact .inr (by rw [r]; exact hpH)
        · exact .inl (.inr (.inr (.inr (.inr (.inr (List.mem_map_of_mem (f := (·.2)) r))))))
    · rw [eB]
      rcases put_mem hq with r | ⟨r, ne⟩
      · rw [r, fup_eq]
        exact List.append_ne_nil_of_right_ne_nil _ (List.cons_ne_nil _ _)
      · rw [fup_ne ne]
        exact ne2 q r
end
end K37

namespace K37
open PySem PySem.Spec PyProof.Rows L2 RZ HX TR RP AL
/-- the first that wait hold, as long as one can: holders, queue, given -/
def prom (hs : List HB) : List HB → List HB × List HB × List HB
  | [] => (hs, [], [])
  | q :: qs => if fits hs q.2 = true then ((prom (hs ++ [q]) qs).1, (prom (hs ++ [q]) qs).2.1, q :: (prom (hs ++ [q]) qs).2.2) else (hs, q :: qs, [])
theorem prom_spec : ∀ {qs hs : List HB}, (prom hs qs).1 = hs ++ (prom hs qs).2.2 ∧ qs = (prom hs qs).2.2 ++ (prom hs qs).2.1
  | [], hs => ⟨(List.append_nil hs).symm, rfl⟩
  | q :: qs, hs => by
    unfold prom
    by_cases c : fits hs q.2 = true
    · rw [if_pos c]
      obtain ⟨h1, h2⟩ := prom_spec (qs := qs) (hs := hs ++ [q])
      refine ⟨?_, ?_⟩
      · show (prom (hs ++ [q]) qs).1 = hs ++ (q :: (prom (hs ++ [q]) qs).2.2)
        rw [h1, List.append_assoc]
        rfl
      · show q :: qs = q :: ((prom (hs ++ [q]) qs).2.2 ++ (prom (hs ++ [q]) qs).2.1)
        rw [← h2]
    · rw [if_neg c]
      exact ⟨(List.append_nil hs).symm, rfl⟩
def lessH (hand : Int) (hs : List HB) : List HB := hs.filter fun q => decide (q.1 ≠ hand)
def letP (A B : Int → List HB) (hand page : Int) : List HB × List HB × List HB := prom (lessH hand (A page)) (B page)
def letA (A B : Int → List HB) (hand page : Int) : Int → List HB := fup A page (letP A B hand page).1
def letB (A B : Int → List HB) (hand page : Int) : Int → List HB := fup B page (letP A B hand page).2.1
def noW (W : Int → Option Int) (g : List HB) : Int → Option Int := fun h => if h ∈ g.map (·.1) then none else W h
def letW (A B : Int → List HB) (W : Int → Option Int) (hand page : Int) : Int → Option Int := noW W (letP A B hand page).2.2
theorem okk_let {P HH : List Int} {A B : Int → List HB} {W : Int → Option Int} (o : Okk P HH A B W) {hand page : Int} (hn : hand ∈ (A page).map (·.1)) : Okk P HH (letA A B hand page) (letB A B hand page) (letW A B W hand page) := by
  obtain ⟨e1, e2⟩ := prom_spec (qs := B page) (hs := lessH hand (A page))
  have eP : letP A B hand page = prom (lessH hand (A page)) (B page) := rfl
  unfold letA letB letW
  rw [eP]
  generalize (prom (lessH hand (A page)) (B page)).1 = N at e1
  generalize (prom (lessH hand (A page)) (B page)).2.1 = R at e2
  generalize (prom (lessH hand (A page)) (B page)).2.2 = G at e1 e2
  have hp : page ∈ P := o.pa page fun z => by rw [z] at hn; cases hn
  have nbp := o.nb page
  rw [e2, List.map_append] at nbp
  obtain ⟨nG, nR, dj⟩ := List.pairwise_append.mp (List.nodup_iff_pairwise_ne.mp nbp)
  have ls : ∀ q ∈ lessH hand (A page), q ∈ A page := fun q hq => (List.mem_filter.mp hq).1
  have inB : ∀ q, q ∈ G ∨ q ∈ R → q ∈ B page := fun q h => by rw [e2]; exact List.mem_append.mpr h
  refine { o with pa := fun p hp' => ?_, pb := fun p hp' => ?_, ha := fun p q hq => ?_, hb := fun p q hq => ?_, na := fun p => ?_, nb := fun p => ?_, ww := fun h p => ?_, ab := fun p q hq => ?_ }
  · by_cases e : p = page
    · rw [e]; exact hp
    · rw [fup_ne e] at hp'
      exact o.pa p hp'
  · by_cases e : p = page
    · rw [e]; exact hp
    · rw [fup_ne e] at hp'
      exact o.pb p hp'
  · by_cases e : p = page
    · rw [e, fup_eq, e1] at hq
      rcases List.mem_append.mp hq with h | h
      · exact o.ha page q (ls q h)
      · exact o.hb page q (inB q (.inl h))
    · rw [fup_ne e] at hq
      exact o.ha p q hq
  · by_cases e : p = page
    · rw [e, fup_eq] at hq
      exact o.hb page q (inB q (.inr hq))
    · rw [fup_ne e] at hq
      exact o.hb p q hq
  · by_cases e : p = page
    · rw [e, fup_eq, e1, List.map_append]
      refine List.nodup_iff_pairwise_ne.mpr (List.pairwise_append.mpr ⟨List.nodup_iff_pairwise_ne.mp ((o.na page).sublist (List.Sublist.map _ List.filter_sublist)), nG, fun u hu v hv z => ?_⟩)
      obtain ⟨q, hq, rfl⟩ := List.mem_map.mp hu
      obtain ⟨r, hr, rfl⟩ := List.mem_map.mp hv
      exact o.ab page q (ls q hq) (by rw [z]; exact List.mem_map_of_mem (f := (·.1)) (inB r (.inl hr)))
    · rw [fup_ne e]
      exact o.na p
  · by_cases e : p = page
    · rw [e, fup_eq]
      exact List.nodup_iff_pairwise_ne.mpr nR
    · rw [fup_ne e]
      exact o.nb p
  · show (if h ∈ G.map (·.1) then none else W h) = some p ↔ _
    by_cases c : h ∈ G.map (·.1)
    · rw [if_pos c]
      refine ⟨(fun z => nomatch z), fun z => ?_⟩
      have w1 : W h = some page := (o.ww h page).mpr (by rw [e2, List.map_append]; exact List.mem_append_left _ c)
      by_cases e : p = page
      · rw [e, fup_eq] at z
        exact absurd rfl (dj h c h z)
      · rw [fup_ne e] at z
        have w2 := (o.ww h p).mpr z
        rw [w1] at w2
        exact absurd (Option.some.inj w2).symm e
    · rw [if_neg c, o.ww h p]
      by_cases e : p = page
      · rw [e, fup_eq, e2, List.map_append, List.mem_append]
        exact ⟨fun z => z.elim (fun z => absurd z c) id, .inr⟩
      · rw [fup_ne e]
  · by_cases e : p = page
    · rw [e, fup_eq, e1] at hq
      rw [e, fup_eq]
      rcases List.mem_append.mp hq with h | h
      · exact fun z => o.ab page q (ls q h) (by rw [e2, List.map_append]; exact List.mem_append_right _ z)
      · exact fun z => dj q.1 (List.mem_map_of_mem (f := (·.1)) h) q.1 z rfl
    · rw [fup_ne e] at hq ⊢
      exact o.ab p q hq
theorem noW_snoc {W : Int → Option Int} {g : List HB} {q : HB} : noW W (g ++ [q]) = fup (noW W g) q.1 none := funext fun h => by
  show (if h ∈ (g ++ [q]).map (·.1) then none else W h) = if h = q.1 then none else if h ∈ g.map (·.1) then none else W h
  have e : h ∈ (g ++ [q]).map (·.1) ↔ h ∈ g.map (·.1) ∨ h = q.1 := by
    rw [List.map_append, List.mem_append]
    exact ⟨fun z => z.elim .inl fun z => .inr (List.mem_singleton.mp z), fun z => z.elim .inl fun z => .inr (List.mem_singleton.mpr z)⟩
  by_cases c : h = q.1
  · rw [if_pos c, if_pos (e.mpr (.inr c))]
  · rw [if_neg c]
    by_cases d : h ∈ g.map (·.1)
    · rw [if_pos d, if_pos (e.mpr (.inl d))]
    · rw [if_neg d, if_neg (fun z => (e.mp z).elim d c)]
theorem noW_nil {W : Int → Option Int} : noW W [] = W := rfl
theorem fup_id {β : Type} {f : Int → β} {k : Int} : fup f k (f k) = f := funext fun j => by
  by_cases c : j = k
  · rw [c, fup_eq]
  · rw [fup_ne c]
theorem fup_fup {β : Type} {f : Int → β} {k : Int} {u v : β} : fup (fup f k u) k v = fup f k v := funext fun j => by
  by_cases c : j = k
  · rw [c, fup_eq, fup_eq]
  · rw [fup_ne c, fup_ne c, fup_ne c]
section
variable {P : Program} {w : World} {K : PySem.W.Frag} {mg : Str → Option Value} {base : Heap}
def sp_let (K : PySem.W.Frag) : Sp := fun vs H Q _ => ∃ (s : Addr) (F : List Addr) (A B : Int → List HB) (W : Int → Option Int) (P HH : List Int) (hand page : Int), vs = [.ref s, .int hand, .int page] ∧ Lat K H s F A B W ∧ Okk P HH A B W ∧ hand ∈ HH ∧ W hand = none ∧ hand ∈ (A page).map (·.1) ∧
  ∀ (H' : Hp) (F' : List Addr) (g : Addr) (xs : List V), Out F H H' → (∀ x ∈ F', x ∈ F ∨ H x = none) → Lat K H' s F' (letA A B hand page) (letB A B hand page) (letW A B W hand page) → RU.FzT H' g xs → Paired (HbAt H') xs (letP A B hand page).2.2 → Q (.ref g) H'
theorem ok_let (T : TX K mg) : FnOk P w K mg base CX0 4 (He.ma K (He.ga K "Latches") "let") T.fd_Latches_let ["self", "hand", "page"] (sp_let K) := by
  have G_need_hand : FnOk P w K mg base CX0 3 (He.ga K "need_hand") T.fd_need_hand ["thing"] sp_need_hand := ok_need_hand T
  have b_need_hand := b_need_hand T
  have G_need_latch : FnOk P w K mg base CX0 3 (He.ga K "need_latch") T.fd_need_latch ["thing"] sp_need_latch := ok_need_latch T
  have b_need_latch := b_need_latch T
  have G_may_hold : FnOk P w K mg base CX0 1 (He.ga K "may_hold") T.fd_may_hold ["holders", "alone"] sp_may_hold := ok_may_hold T
  have b_may_hold := b_may_hold T
  have G_Latches_need_no_wait : FnOk P w K mg base CX0 1 (He.ma K (He.ga K "Latches") "need_no_wait") T.fd_Latches_need_no_wait ["self", "hand"] (sp_need_no_wait K) := ok_need_no_wait T
  have b_Latches_need_no_wait := b_Latches_need_no_wait T
  refine T.F_Latches_let.ok sc_Latches_let (fun vs H Q E h => ?_) (fun cdv A outer st H vs Q E hr h => ?_)
  · obtain ⟨s, F, A, B, W, P, HH, hand, page, rfl, _⟩ := h
    rfl
  · obtain ⟨s, F, LA, LB, LW, PP, HH, hand, page, rfl, ⟨dx, a, b, c, ds, ls, ws, x, ne1, ne2⟩, o, hh, hw, hn, kq⟩ := h
    refine ⟨_, PSs.nox (pss_cons (ps_expr (pe_call G_need_hand (hr.mono (by first | decide | omega)) rfl T.g_need_hand T.F_need_hand.kp b_need_hand .nil pass0 (pa_cons (pv 1) pa_nil)))
 (pss_cons (ps_expr (pe_call G_need_latch (hr.mono (by first | decide | omega)) rfl T.g_need_latch T.F_need_latch.kp b_need_latch .nil pass0 (pa_cons (pv 2) pa_nil)))
 (pss_cons (ps_expr (pe_meth (pv 0) T.cl_Latches T.m_Latches_need_no_wait G_Latches_need_no_wait (hr.mono (by first | decide | omega)) b_Latches_need_no_wait .nil pass0 (pa_cons (pv 1) pa_nil)))
 (pss_cons (ps_set (i := 3) sc_Latches_let.nd rfl (Or.inl rfl) (pe_dget2 (hu_of hr) (pe_fld (pv 0) rfl) (pv 2) pe_dnewK ⟨rfl, rfl, rfl, rfl⟩))
 (pss_cons (ps_if (pt_cmp (pc_dnotin (hu_of hr) (pv 1) (pv 3)))
 (pss_one ps_never)
 pss_nil)
 (pss_cons (ps_ddel (pv 3) (pv 1))
 (pss_cons (ps_set (i := 4) sc_Latches_let.nd rfl (Or.inl rfl) (pe_dget2 (hu_of hr) (pe_fld (pv 0) rfl) (pv 2) (pe_lst pa_nil) ⟨rfl, rfl, rfl, rfl⟩))
 (pss_cons (ps_set (i := 5) sc_Latches_let.nd rfl (Or.inl rfl) (pe_lst pa_nil))
 (Evl.pss_cut (ps_while PassesOwn.never (PW.pt (pw_and (pt_truth (pv 4) (by intro _; rfl)) (pw_and1 (pt_val (pe_call G_may_hold (hr.mono (by first | decide | omega)) rfl T.g_may_hold T.F_may_hold.kp b_may_hold .nil pass0 (pa_cons (pv 3) (pa_cons (pe_ix ix_tup (pe_ix ix_list (pv 4) pe_int (fun _ _ => rfl)) pe_int (fun _ _ => rfl)) pa_nil)))))))
 (pss_cons (ps_asg (pe_bm PySem.F.plainAttrs_list PySem.F.slot_list_pop PySem.F.type_list_pop mt_popAt (pv 4) (pa_cons pe_int pa_nil)) (pg_tup rfl (pgs_cons (pg_name (i := 6) sc_Latches_let.nd rfl (Or.inl rfl)) (pgs_cons (pg_name (i := 7) sc_Latches_let.nd rfl (Or.inl rfl)) pgs_nil))))
 (pss_cons (ps_dput (hu_of hr) (pv 3) (pv 6) (pv 7) rfl)
 (pss_cons (ps_ddel (pe_fld (pv 0) rfl) (pv 6))
 (pss_one (ps_expr (pe_bm PySem.F.plainAttrs_list PySem.F.slot_list_append PySem.F.type_list_append mt_append (pv 5) (pa_cons (pe_tup (pa_cons (pv 6) (pa_cons (pv 7) pa_nil))) pa_nil))))))))
 (Evl.pss_cut (ps_if (pt_not (pt_truth (pv 3) (by intro _; rfl)))
 (pss_one (ps_ddel (pe_fld (pv 0) rfl) (pv 2)))
 pss_nil)
 (Evl.pss_cut (ps_if (PW.pt (pw_and (pt_truth (pv 5) (by intro _; rfl)) (pw_and1 (pt_not (pt_truth (pv 4) (by intro _; rfl))))))
 (pss_one (ps_ddel (pe_fld (pv 0) rfl) (pv 2)))
 pss_nil)
 (pss_one (ps_ret (pe_callTy RU.call_tupF rfl T.n_tuple (by decide +kernel) (pa_cons (pv 5) pa_nil))))))))))))))), ?_⟩
    have hp : page ∈ PP := o.pa page fun z => by rw [z] at hn; cases hn
    refine ⟨_, rfl, hand, rfl, (o.hr hand hh).1, (o.hr hand hh).2, ?_⟩
    refine ⟨_, rfl, page, rfl, (o.pr page hp).1, (o.pr page hp).2, ?_⟩
    refine ⟨_, rfl, s, dx, _, rfl, x.hs, rfl, _, rfl, s, hand, dx, a, b, c, ws, rfl, x.hs, x.hc, by rw [x.wd]; exact hw, ?_⟩
    refine ⟨_, rfl, s, _, dx, _, _, rfl, x.hs, T.cl_Latches, T.na_Latches_holding, lf_h, a, rfl, .inl ⟨_, .inl x.ha⟩, _, rfl, fun e he => ?_⟩
    have s1 := same_new (o := .dK []) he
    have x1 := x.same s1
    generalize upd H e (.dK []) = H1 at s1 x1
    refine ⟨_, DGet.k (k := .inl page) x1.ha, ?_⟩
    obtain ⟨hd, md, ehd, hhd⟩ : ∃ hd, (page, hd) ∈ ds ∧ valV (ds.map (ent V.ref)) (.inl page) = some (.ref hd) ∧ HdAt H1 hd (LA page) := by
      rcases x1.get_hold page with ⟨d, h1, h2, h3⟩ | ⟨_, _, h3⟩
      · exact ⟨d, h1, h2, h3⟩
      · rw [h3] at hn
        cases hn
    rw [ehd]
    have hhd' : H1 hd = some (.dK ((LA page).map (ent V.bl))) := hhd
    have hal : (valV ((LA page).map (ent V.bl)) (.inl hand)).isSome = true := by
      rw [val_ent]
      cases z : alk (LA page) hand with
      | none => exact absurd hn (alk_none.mp z)
      | some _ => rfl
    refine ⟨_, rfl, _, rfl, hd, _, rfl, DGet.k (k := .inl hand) hhd', _, rfl, ?_⟩
    rw [hal]
    refine iteF ?_
    refine ⟨_, rfl, _, rfl, hd, _, .inl hand, rfl, hhd', rfl, hal, ?_⟩
    rw [del_ent]
    have x2 := x1.set_hold (hs' := adel (LA page) hand) md
    have hFd : hd ∈ F := by
      rw [x.f]
      simp only [List.mem_cons, List.mem_append]
      exact .inr (.inr (.inr (.inr (.inl (List.mem_map_of_mem (f := (·.2)) md)))))
    have o2 : Out F H (upd H1 hd (.dK ((adel (LA page) hand).map (ent V.bl)))) := (Out.of s1).upd hFd
    generalize upd H1 hd (.dK ((adel (LA page) hand).map (ent V.bl))) = H2 at x2 o2
    have eL : adel (LA page) hand = lessH hand (LA page) := rfl
    rw [eL] at x2
    refine ⟨_, rfl, s, _, dx, _, _, rfl, x2.hs, T.cl_Latches, T.na_Latches_lines, lf_l, b, rfl, .inl ⟨_, .inl x2.hb⟩, _, rfl, by show 0 ≤ sizeLine; decide, fun e' he' => ?_⟩
    have s3 := same_new (o := .lst []) he'
    have he3 : upd H2 e' (.lst []) e' = some (.lst []) := upd_same
    have x3 := x2.same s3
    generalize upd H2 e' (.lst []) = H3 at s3 he3 x3
    refine ⟨_, DGet.k (k := .inl page) x3.hb, ?_⟩
    obtain ⟨ld, eld, hcase⟩ : ∃ ld, ((valV (ls.map (ent V.ref)) (.inl page)).getD (.ref e')) = .ref ld ∧ ((page, ld) ∈ ls ∨ (page ∉ ls.map (·.1) ∧ LB page = [] ∧ H3 ld = some (.lst []))) := by
      rcases x3.get_line page with ⟨d, h1, h2, h3⟩ | ⟨h1, h2, h3⟩
      · exact ⟨d, by rw [h2]; rfl, .inl h1⟩
      · exact ⟨e', by rw [h2]; rfl, .inr ⟨alk_none.mp h1, h3, he3⟩⟩
    rw [eld]
    refine ⟨by show 0 ≤ sizeLine; decide, fun gd hgd => ?_⟩
    have s4 := same_new (o := .lst []) hgd
    have hg4 : upd H3 gd (.lst []) gd = some (.lst []) := upd_same
    have x4 := x3.same s4
    generalize upd H3 gd (.lst []) = H4 at s4 hg4 x4
    have o4 : Out F H H4 := o2.trans (Out.of (s3.trans s4))
    have gF : gd ∉ F := fun hm => by
      obtain ⟨oo, z, _⟩ := x3.reg gd hm
      rw [hgd] at z
      cases z
    have gH : H gd = none := by
      cases z : H gd with
      | none => rfl
      | some u => exact absurd (s3 _ _ (o2 _ _ gF z)) (by rw [hgd]; simp)
    have al := o.al page
    have bl := o.bl page
    have ll0 : (lessH hand (LA page)).length ≤ 100 := Nat.le_trans (List.length_filter_le _ _) al
    have nd0 : ((lessH hand (LA page) ++ LB page).map (·.1)).Nodup := by
      rw [List.map_append]
      refine List.nodup_iff_pairwise_ne.mpr (List.pairwise_append.mpr ⟨List.nodup_iff_pairwise_ne.mp ((o.na page).sublist (List.Sublist.map _ List.filter_sublist)), List.nodup_iff_pairwise_ne.mp (o.nb page), fun u hu v hv z => ?_⟩)
      obtain ⟨q, hq, rfl⟩ := List.mem_map.mp hu
      exact o.ab page q (List.mem_filter.mp hq).1 (by rw [z]; exact hv)
    have hcase4 : (page, ld) ∈ ls ∨ (page ∉ ls.map (·.1) ∧ LB page = [] ∧ H4 ld = some (.lst [])) := hcase.imp id fun z => ⟨z.1, z.2.1, s4 _ _ z.2.2⟩
    refine ⟨fun σ H' => ∃ (hs qs g : List HB) (v6 v7 : Option V) (ws' : List (Int × Int)) (xs : List V), σ = [some (.ref s), some (.int hand), some (.int page), some (.ref hd), some (.ref ld), some (.ref gd), v6, v7] ∧ Out F H H' ∧ H' gd = some (.lst xs) ∧ Paired (HbAt H') xs g ∧
      LatAt K H' s F (fup LA page hs) (fup LB page qs) (noW LW g) dx a b c ds ls ws' ∧ ((page, ld) ∈ ls ∨ (page ∉ ls.map (·.1) ∧ LB page = [] ∧ H' ld = some (.lst []))) ∧ letP LA LB hand page = (hs, qs, g) ∧ LB page = g ++ qs, ?_, ?_⟩
    refine ⟨fun m σ H' => ∃ (hs qs g : List HB) (v6 v7 : Option V) (ws' : List (Int × Int)) (xs : List V), m = qs.length ∧ σ = [some (.ref s), some (.int hand), some (.int page), some (.ref hd), some (.ref ld), some (.ref gd), v6, v7] ∧ Out F H H' ∧ H' gd = some (.lst xs) ∧ Paired (HbAt H') xs g ∧
      LatAt K H' s F (fup LA page hs) (fup LB page qs) (noW LW g) dx a b c ds ls ws' ∧ ((page, ld) ∈ ls ∨ (page ∉ ls.map (·.1) ∧ LB page = [] ∧ H' ld = some (.lst []))) ∧ letP LA LB hand page = ((prom hs qs).1, (prom hs qs).2.1, g ++ (prom hs qs).2.2) ∧ LB page = g ++ qs ∧ ((hs ++ qs).map (·.1)).Nodup ∧ hs.length + qs.length ≤ 200 ∧ ws'.length ≤ 100, ⟨_, lessH hand (LA page), LB page, [], none, none, ws, [], rfl, rfl, o4, hg4, .nil, by rw [fup_id, noW_nil]; exact x4, hcase4, rfl, rfl, nd0, by omega, x.wl o⟩, ?_⟩
    rintro m σ H5 ⟨hs, qs, g, v6, v7, ws', xs, rfl, rfl, o5, hg5, hxs, x5, hc5, eP, eB, nd5, lhq, lws⟩
    have hhd5 : H5 hd = some (.dK (hs.map (ent V.bl))) := by
      have z := x5.dd _ md
      rw [fup_eq] at z
      exact z
    have gld : gd ≠ ld := fun z => by
      rcases hc5 with m | ⟨_, _, h⟩
      · exact gF (by rw [z, x.f]; simp only [List.mem_cons, List.mem_append]; exact .inr (.inr (.inr (.inr (.inr (List.mem_map_of_mem (f := (·.2)) m))))))
      · rcases hcase4 with m | ⟨_, _, h4⟩
        · exact gF (by rw [z, x.f]; simp only [List.mem_cons, List.mem_append]; exact .inr (.inr (.inr (.inr (.inr (List.mem_map_of_mem (f := (·.2)) m))))))
        · rcases hcase with m | ⟨_, _, h3⟩
          · exact gF (by rw [z, x.f]; simp only [List.mem_cons, List.mem_append]; exact .inr (.inr (.inr (.inr (.inr (List.mem_map_of_mem (f := (·.2)) m))))))
          · rw [z, h3] at hgd
            cases hgd
    cases qs with
    | nil =>
      have lemp : ∃ ys : List V, H5 ld = some (.lst ys) ∧ ys = [] := by
        rcases hc5 with m | ⟨_, _, h⟩
        · have z := x5.ll _ m
          rw [fup_eq] at z
          obtain ⟨ys, h1, h2⟩ := z
          exact ⟨ys, h1, List.eq_nil_of_length_eq_zero h2.length⟩
        · exact ⟨[], h, rfl⟩
      obtain ⟨ys, hys, rfl⟩ := lemp
      refine ⟨_, rfl, _, .inl ⟨_, SqL.of hys, rfl⟩, iteF ?_⟩
      exact ⟨hs, [], g, v6, v7, ws', xs, rfl, o5, hg5, hxs, x5, hc5, by rw [eP]; show (hs, [], g ++ []) = _; rw [List.append_nil], eB⟩
    | cons q qs =>
      have ml : (page, ld) ∈ ls := by
        rcases hc5 with m | ⟨_, h, _⟩
        · exact m
        · rw [h] at eB
          have z := congrArg List.length eB
          rw [List.length_append, List.length_cons] at z
          simp at z
      have zl := x5.ll _ ml
      rw [fup_eq] at zl
      obtain ⟨ys, hys, hyp⟩ := zl
      cases hyp with
      | @cons y0 _ yr _ hq hyr =>
      obtain ⟨tq, rfl, htq⟩ := id hq
      refine ⟨_, rfl, _, .inl ⟨_, SqL.of hys, rfl⟩, iteT ?_⟩
      refine ⟨_, rfl, _, rfl, ld, _, _, _, rfl, rfl, SqL.of hys, HX.at_of (j := 0) rfl rfl, tq, _, _, _, rfl, rfl, SqT.of htq, rfl, hd, hs, q.2, rfl, hhd5, fun H6 s6 => ⟨_, rfl, ?_⟩⟩
      have x6 := x5.same s6
      have o6 := o5.trans (Out.of s6)
      have hg6 := s6 _ _ hg5
      have hxs6 := paired_imp (fun _ _ r => HbAt.keep (Keep.of s6) r) hxs
      cases hf : fits hs q.2 with
      | false =>
        have e : prom hs (q :: qs) = (hs, q :: qs, []) := by
          unfold prom
          rw [if_neg (by rw [hf]; exact Bool.false_ne_true)]
        rw [e, List.append_nil] at eP
        have hc6 : (page, ld) ∈ ls ∨ (page ∉ ls.map (·.1) ∧ LB page = [] ∧ H6 ld = some (.lst [])) := .inl ml
        exact iteF ⟨hs, q :: qs, g, v6, v7, ws', xs, rfl, o6, hg6, hxs6, x6, hc6, eP, eB⟩
      | true =>
        have e : prom hs (q :: qs) = ((prom (hs ++ [q]) qs).1, (prom (hs ++ [q]) qs).2.1, q :: (prom (hs ++ [q]) qs).2.2) := by
          conv => lhs; unfold prom
          rw [if_pos hf]
        refine iteT ⟨_, fun σ' H' h => ⟨qs.length, Nat.lt_succ_self _, h⟩, ?_⟩
        have hl6 := s6 _ _ hys
        have htq6 := s6 _ _ htq
        have hyr6 := paired_imp (fun _ _ r => HbAt.keep (Keep.of s6) r) hyr
        refine ⟨_, rfl, .inl ⟨rfl, _, SqL.of hl6⟩, ld, _, 0, 0, .ref tq, rfl, rfl, hl6, by decide, by decide, seqk (k := 0) (Nat.succ_pos _), rfl, ?_⟩
        have x7 := x6.set_line (qs := qs) (xs := yr) ml hyr6
        rw [fup_fup] at x7
        have ex : (V.ref tq :: yr).eraseIdx 0 = yr := rfl
        rw [ex]
        have k7 : Keep H6 (upd H6 ld (.lst yr)) := (Keep.refl H6).upd fun u e => by rw [hl6] at e; cases e; rfl
        have o7 : Out F H (upd H6 ld (.lst yr)) := o6.upd (by rw [x.f]; simp only [List.mem_cons, List.mem_append]; exact .inr (.inr (.inr (.inr (.inr (List.mem_map_of_mem (f := (·.2)) ml))))))
        have hg7 : upd H6 ld (.lst yr) gd = some (.lst xs) := by rw [upd_ne gld]; exact hg6
        have htq7 := k7 _ _ htq6
        have hxs7 := paired_imp (fun _ _ r => HbAt.keep k7 r) hxs6
        generalize upd H6 ld (.lst yr) = H7 at x7 k7 o7 hg7 htq7 hxs7
        refine ⟨tq, _, rfl, SqT.of htq7, rfl, _, _, rfl, _, _, rfl, rfl, ?_⟩
        have hhd7 : H7 hd = some (.dK (hs.map (ent V.bl))) := by
          have z := x7.dd _ md
          rw [fup_eq] at z
          exact z
        rw [List.length_cons] at lhq
        refine ⟨_, rfl, _, rfl, _, rfl, hd, _, rfl, DPut.k (k := .inl q.1) hhd7 ?_, ?_⟩
        · rw [List.length_map]
          exact Nat.lt_of_le_of_lt (by omega : _ ≤ 200) (by decide)
        have nq : q.1 ∉ hs.map (·.1) := fun hm => by
          rw [List.map_append] at nd5
          obtain ⟨_, _, dj⟩ := List.pairwise_append.mp (List.nodup_iff_pairwise_ne.mp nd5)
          exact dj _ hm _ (List.mem_cons_self ..) rfl
        rw [put_ent (f := V.bl), aput_new (alk_none.mpr nq)]
        have x8 := x7.set_hold (hs' := hs ++ [(q.1, q.2)]) md
        rw [fup_fup] at x8
        have k8 := keep_dk (fs := (hs ++ [(q.1, q.2)]).map (ent V.bl)) hhd7
        have o8 := o7.upd (o := .dK ((hs ++ [(q.1, q.2)]).map (ent V.bl))) hFd
        have ghd : gd ≠ hd := fun z => gF (by rw [z]; exact hFd)
        have hg8 : upd H7 hd (.dK ((hs ++ [(q.1, q.2)]).map (ent V.bl))) gd = some (.lst xs) := by rw [upd_ne ghd]; exact hg7
        have hxs8 := paired_imp (fun _ _ r => HbAt.keep k8 r) hxs7
        generalize upd H7 hd (.dK ((hs ++ [(q.1, q.2)]).map (ent V.bl))) = H8 at x8 k8 o8 hg8 hxs8
        have nbq := o.nb page
        rw [eB, List.map_append] at nbq
        obtain ⟨_, _, djB⟩ := List.pairwise_append.mp (List.nodup_iff_pairwise_ne.mp nbq)
        have ngq : q.1 ∉ g.map (·.1) := fun hm => djB _ hm _ (List.mem_cons_self ..) rfl
        have wq : alk ws' q.1 = some page := by
          rw [x8.wd]
          show (if q.1 ∈ g.map (·.1) then none else LW q.1) = _
          rw [if_neg ngq]
          exact (o.ww q.1 page).mpr (by rw [eB, List.map_append]; exact List.mem_append_right _ (List.mem_cons_self ..))
        refine ⟨_, rfl, s, _, dx, _, _, rfl, x8.hs, T.cl_Latches, T.na_Latches_wanted, lf_w, _, rfl, c, _, .inl q.1, rfl, x8.hc, rfl, by rw [val_ent, wq]; rfl, ?_⟩
        rw [del_ent]
        have x9 := x8.del_want (hand := q.1)
        rw [← noW_snoc] at x9
        have k9 := keep_dk (fs := (adel ws' q.1).map (ent V.int)) x8.hc
        have o9 := o8.upd (p := c) (o := .dK ((adel ws' q.1).map (ent V.int))) (by rw [x.f]; simp)
        have gc : gd ≠ c := fun z => gF (by rw [z, x.f]; simp)
        have hg9 : upd H8 c (.dK ((adel ws' q.1).map (ent V.int))) gd = some (.lst xs) := by rw [upd_ne gc]; exact hg8
        have hxs9 := paired_imp (fun _ _ r => HbAt.keep k9 r) hxs8
        generalize upd H8 c (.dK ((adel ws' q.1).map (ent V.int))) = H9 at x9 k9 o9 hg9 hxs9
        refine ⟨_, rfl, .inl ⟨rfl, _, SqL.of hg9⟩, _, rfl, _, rfl, by show 2 ≤ sizeLine; decide, fun tn htn => ?_⟩
        have sa := same_new (o := .tup [V.int q.1, .bl q.2]) htn
        have hta : upd H9 tn (.tup [V.int q.1, .bl q.2]) tn = some (.tup [V.int q.1, .bl q.2]) := upd_same
        have xa := x9.same sa
        have oa := o9.trans (Out.of sa)
        have hga := sa _ _ hg9
        have hxsa := paired_imp (fun _ _ r => HbAt.keep (Keep.of sa) r) hxs9
        generalize upd H9 tn (.tup [V.int q.1, .bl q.2]) = Ha at sa hta xa oa hga hxsa
        have lg : xs.length ≤ 200 := by
          rw [hxs.length]
          have z := congrArg List.length eB
          rw [List.length_append] at z
          omega
        refine ⟨gd, _, _, rfl, rfl, hga, Nat.lt_of_le_of_lt lg (by decide), ?_⟩
        have kb : Keep Ha (upd Ha gd (.lst (xs ++ [.ref tn]))) := (Keep.refl Ha).upd fun u e => by rw [hga] at e; cases e; rfl
        refine ⟨hs ++ [(q.1, q.2)], qs, g ++ [q], _, _, adel ws' q.1, xs ++ [.ref tn], rfl, rfl, fun u ou nu eu => ?_, upd_same, paired_app (paired_imp (fun _ _ r => HbAt.keep kb r) hxsa) (.cons ⟨tn, rfl, kb _ _ hta⟩ .nil), ?_, .inl ml, ?_, by rw [eB, List.append_assoc]; rfl, by rw [List.append_assoc]; exact nd5, by rw [List.length_append]; show hs.length + 1 + qs.length ≤ 200; omega, Nat.le_trans (List.length_filter_le _ _) lws⟩
        · rw [upd_ne (fun z => by rw [z, gH] at eu; cases eu)]
          exact oa _ _ nu eu
        · exact xa.out (G := [gd]) (Out.refl.upd (List.mem_cons_self ..)) kb fun y hy z => gF (by rw [← List.mem_singleton.mp z]; exact hy)
        · rw [eP, e, List.append_assoc]
          rfl
    rintro σ H5 ⟨hs, qs, g, v6, v7, ws', xs, rfl, o5, hg5, hxs, x5, hc5, eP, eB⟩
    have e1 : (letP LA LB hand page).1 = hs := by rw [eP]
    have e2 : (letP LA LB hand page).2.1 = qs := by rw [eP]
    have e3 : (letP LA LB hand page).2.2 = g := by rw [eP]
    have eA : letA LA LB hand page = fup LA page hs := by unfold letA; rw [e1]
    have eBq : letB LA LB hand page = fup LB page qs := by unfold letB; rw [e2]
    have eW : letW LA LB LW hand page = noW LW g := by unfold letW; rw [e3]
    rw [eA, eBq, eW, e3] at kq
    have hhd5 : H5 hd = some (.dK (hs.map (ent V.bl))) := by
      have z := x5.dd _ md
      rw [fup_eq] at z
      exact z
    have emh : ((hs.map (ent V.bl)).isEmpty) = hs.isEmpty := by cases hs <;> rfl
    -- nobody holds it any more
    refine ⟨fun σ' H' => ∃ F' ds', σ' = [some (.ref s), some (.int hand), some (.int page), some (.ref hd), some (.ref ld), some (.ref gd), v6, v7] ∧ Out F H H' ∧ H' gd = some (.lst xs) ∧ Paired (HbAt H') xs g ∧ (∀ y ∈ F', y ∈ F) ∧
      LatAt K H' s F' (fup LA page hs) (fup LB page qs) (noW LW g) dx a b c ds' ls ws' ∧ (∀ q ∈ ds', fup LA page hs q.1 ≠ []) ∧ ((page, ld) ∈ ls ∨ (page ∉ ls.map (·.1) ∧ LB page = [] ∧ H' ld = some (.lst []))), ?_, ?_⟩
    · refine ⟨_, rfl, _, .inr (.inr ⟨_, hhd5, rfl⟩), ?_⟩
      rw [emh]
      cases hs with
      | nil =>
        refine iteT ⟨_, rfl, s, _, dx, _, _, rfl, x5.hs, T.cl_Latches, T.na_Latches_holding, lf_h, _, rfl, a, _, .inl page, rfl, x5.ha, rfl, by rw [val_ent, mem_alk x.nd md]; rfl, ?_⟩
        rw [del_ent]
        have x6 := x5.del_hold (page := page) fup_eq
        have k6 := keep_dk (fs := (adel ds page).map (ent V.ref)) x5.ha
        have ga : gd ≠ a := fun z => gF (by rw [z, x.f]; simp)
        refine ⟨_, adel ds page, rfl, o5.upd (by rw [x.f]; simp), by rw [upd_ne ga]; exact hg5, paired_imp (fun _ _ r => HbAt.keep k6 r) hxs, fun y hy => ?_, x6, fun q hq => ?_, hc5.imp id fun z => ⟨z.1, z.2.1, ?_⟩⟩
        · rw [x.f]
          simp only [List.mem_cons, List.mem_append] at hy ⊢
          rcases hy with h | h | h | h | h | h
          · exact .inl h
          · exact .inr (.inl h)
          · exact .inr (.inr (.inl h))
          · exact .inr (.inr (.inr (.inl h)))
          · exact .inr (.inr (.inr (.inr (.inl (del_sub.subset h)))))
          · exact .inr (.inr (.inr (.inr (.inr h))))
        · obtain ⟨h1, h2⟩ := del_mem hq
          rw [fup_ne h2]
          exact ne1 q h1
        · rw [upd_ne (fun w => by
            have z1 := z.2.2
            rw [w, x5.ha] at z1
            cases z1)]
          exact z.2.2
      | cons q0 qr =>
        refine iteF ⟨F, ds, rfl, o5, hg5, hxs, fun y hy => hy, x5, fun q hq => ?_, hc5⟩
        by_cases e : q.1 = page
        · rw [e, fup_eq]
          exact List.cons_ne_nil _ _
        · rw [fup_ne e]
          exact ne1 q hq
    rintro _ H6 ⟨F6, ds6, rfl, o6, hg6, hxs6, f6, x6, ne6, hc6⟩
    have lxs := hxs6.length
    -- nobody waits for it any more
    refine ⟨fun σ' H' => ∃ F' ls', σ' = [some (.ref s), some (.int hand), some (.int page), some (.ref hd), some (.ref ld), some (.ref gd), v6, v7] ∧ Out F H H' ∧ H' gd = some (.lst xs) ∧ Paired (HbAt H') xs g ∧ (∀ y ∈ F', y ∈ F) ∧
      LatAt K H' s F' (fup LA page hs) (fup LB page qs) (noW LW g) dx a b c ds6 ls' ws' ∧ (∀ q ∈ ls', fup LB page qs q.1 ≠ []), ?_, ?_⟩
    · have other : ∀ q ∈ ls, q.1 ≠ page → fup LB page qs q.1 ≠ [] := fun q hq e => by rw [fup_ne e]; exact ne2 q hq
      refine ⟨_, rfl, _, .inl ⟨_, SqL.of hg6, rfl⟩, ?_⟩
      cases g with
      | nil =>
        have xs0 : xs = [] := List.eq_nil_of_length_eq_zero lxs
        subst xs0
        refine iteF (iteF ⟨F6, ls, rfl, o6, hg6, hxs6, f6, x6, fun q hq => ?_⟩)
        by_cases e : q.1 = page
        · rw [e, fup_eq]
          have z := ne2 q hq
          rw [e, eB] at z
          exact z
        · exact other q hq e
      | cons g0 gr =>
        have ml : (page, ld) ∈ ls := by
          rcases hc6 with m | ⟨_, h, _⟩
          · exact m
          · rw [h] at eB
            cases eB
        have zl := x6.ll _ ml
        rw [fup_eq] at zl
        obtain ⟨ys, hys, hyp⟩ := zl
        cases xs with
        | nil => cases lxs
        | cons x0 xr =>
          refine iteT ⟨_, rfl, _, .inl ⟨_, SqL.of hys, rfl⟩, ?_⟩
          cases qs with
          | nil =>
            have ys0 : ys = [] := List.eq_nil_of_length_eq_zero hyp.length
            subst ys0
            refine iteT ⟨_, rfl, s, _, dx, _, _, rfl, x6.hs, T.cl_Latches, T.na_Latches_lines, lf_l, _, rfl, b, _, .inl page, rfl, x6.hb, rfl, by rw [val_ent, mem_alk x.nl ml]; rfl, ?_⟩
            rw [del_ent]
            have x7 := x6.del_line (page := page) fup_eq
            have k7 := keep_dk (fs := (adel ls page).map (ent V.ref)) x6.hb
            have gb : gd ≠ b := fun z => gF (by rw [z, x.f]; simp)
            refine ⟨_, adel ls page, rfl, o6.upd (by rw [x.f]; simp), by rw [upd_ne gb]; exact hg6, paired_imp (fun _ _ r => HbAt.keep k7 r) hxs6, fun y hy => f6 y ?_, x7, fun q hq => ?_⟩
            · rw [x6.f]
              simp only [List.mem_cons, List.mem_append] at hy ⊢
              rcases hy with h | h | h | h | h | h
              · exact .inl h
              · exact .inr (.inl h)
              · exact .inr (.inr (.inl h))
              · exact .inr (.inr (.inr (.inl h)))
              · exact .inr (.inr (.inr (.inr (.inl h))))
              · exact .inr (.inr (.inr (.inr (.inr (del_sub.subset h)))))
            · obtain ⟨h1, h2⟩ := del_mem hq
              exact other q h1 h2
          | cons q0 qr =>
            cases ys with
            | nil => cases hyp
            | cons y0 yr =>
              refine iteF ⟨F6, ls, rfl, o6, hg6, hxs6, f6, x6, fun q hq => ?_⟩
              by_cases e : q.1 = page
              · rw [e, fup_eq]
                exact List.cons_ne_nil _ _
              · exact other q hq e
    rintro _ H7 ⟨F7, ls7, rfl, o7, hg7, hxs7, f7, x7, ne7⟩
    refine ⟨_, rfl, gd, _, rfl, SqL.of hg7, fun r ro hr hro => ?_⟩
    have s8 := same_new (o := .frz ro (.tup xs)) hr
    exact kq _ F7 r xs (o7.trans (Out.of s8)) (fun y hy => .inl (f7 y hy)) ⟨dx, a, b, c, ds6, ls7, ws', x7.same s8, ne6, ne7⟩ ⟨ro, upd_same, hro⟩ (paired_imp (fun _ _ r => HbAt.keep (Keep.of s8) r) hxs7)
end
end K37

namespace K37
open PySem PySem.Spec PyProof.Rows L2 RZ HX TR RP AL
/-- rising by hand -/
def RisH (qs rs : List HB) : Prop := qs.Perm rs ∧ qs.Pairwise (fun e f => e.1 < f.1)
theorem rows_hb {H : Hp} : ∀ {ps : List (Addr × Int × V)} {qs : List HB}, qs.map (fun q => (q.1, V.bl q.2)) = ps.map (·.2) → (∀ z ∈ ps, H z.1 = some (.tup [.int z.2.1, z.2.2])) → Paired (HbAt H) (ps.map fun z => V.ref z.1) qs
  | [], [], _, _ => .nil
  | [], q :: qs, e, _ => by cases e
  | z :: ps, [], e, _ => by cases e
  | z :: ps, q :: qs, e, h => by
    rw [List.map_cons, List.map_cons] at e
    injection e with e1 e2
    refine .cons ⟨z.1, rfl, ?_⟩ (rows_hb e2 fun y hy => h y (List.mem_cons_of_mem _ hy))
    have hz := h z (List.mem_cons_self ..)
    rw [← e1] at hz
    exact hz
section
variable {P : Program} {w : World} {K : PySem.W.Frag} {mg : Str → Option Value} {base : Heap}
def sp_holders (K : PySem.W.Frag) : Sp := fun vs H Q _ => ∃ (s : Addr) (F : List Addr) (A B : Int → List HB) (W : Int → Option Int) (PP HH : List Int) (page : Int), vs = [.ref s, .int page] ∧ Lat K H s F A B W ∧ Okk PP HH A B W ∧ page ∈ PP ∧
  ∀ (H' : Hp) (t : Addr) (xs : List V) (qs : List HB), Same H H' → RU.FzT H' t xs → Paired (HbAt H') xs qs → RisH qs (A page) → Q (.ref t) H'
theorem ok_holders (T : TX K mg) : FnOk P w K mg base CX0 4 (He.ma K (He.ga K "Latches") "holders") T.fd_Latches_holders ["self", "page"] (sp_holders K) := by
  have G_need_latch : FnOk P w K mg base CX0 3 (He.ga K "need_latch") T.fd_need_latch ["thing"] sp_need_latch := ok_need_latch T
  have b_need_latch := b_need_latch T
  refine T.F_Latches_holders.ok sc_Latches_holders (fun vs H Q E h => ?_) (fun cdv A outer st H vs Q E hr h => ?_)
  · obtain ⟨s, F, A, B, W, PP, HH, page, rfl, _⟩ := h
    rfl
  · obtain ⟨s, F, LA, LB, LW, PP, HH, page, rfl, ⟨dx, a, b, c, ds, ls, ws, x, ne1, ne2⟩, o, hp, kq⟩ := h
    refine ⟨_, PSs.nox (pss_cons (ps_expr (pe_call G_need_latch (hr.mono (by first | decide | omega)) rfl T.g_need_latch T.F_need_latch.kp b_need_latch .nil pass0 (pa_cons (pv 1) pa_nil)))
 (pss_one (ps_ret (pe_callTy RU.call_tupF rfl T.n_tuple (by decide +kernel) (pa_cons (pe_callB (HS.cr_sortedItV rfl) rfl T.n_sorted (by decide +kernel) (pa_cons (pe_bm0 PySem.F.plainAttrs_dict PySem.F.slot_dict_items PySem.F.type_dict_items HS.mt_itemsK (pe_dget2 (hu_of hr) (pe_fld (pv 0) rfl) (pv 1) pe_dnewK ⟨rfl, rfl, rfl, rfl⟩)) pa_nil)) pa_nil))))), ?_⟩
    refine ⟨_, rfl, page, rfl, (o.pr page hp).1, (o.pr page hp).2, ?_⟩
    refine ⟨_, rfl, s, _, dx, _, _, rfl, x.hs, T.cl_Latches, T.na_Latches_holding, lf_h, a, rfl, .inl ⟨_, .inl x.ha⟩, _, rfl, fun e he => ?_⟩
    have s1 := same_new (o := .dK []) he
    have he1 : upd H e (.dK []) e = some (.dK []) := upd_same
    have x1 := x.same s1
    generalize upd H e (.dK []) = H1 at s1 he1 x1
    refine ⟨_, DGet.k (k := .inl page) x1.ha, ?_⟩
    obtain ⟨hd, ehd, hhd⟩ : ∃ hd, ((valV (ds.map (ent V.ref)) (.inl page)).getD (.ref e)) = .ref hd ∧ HdAt H1 hd (LA page) := by
      rcases x1.get_hold page with ⟨d, h1, h2, h3⟩ | ⟨h1, h2, h3⟩
      · exact ⟨d, by rw [h2]; rfl, h3⟩
      · exact ⟨e, by rw [h2]; rfl, by rw [h3]; exact he1⟩
    rw [ehd]
    have hhd' : H1 hd = some (.dK ((LA page).map (ent V.bl))) := hhd
    refine ⟨.inr (.inr (.inl ⟨rfl, .inl ⟨_, hhd'⟩⟩)), hd, _, rfl, rfl, hhd', fun p hp' => ?_⟩
    have s2 := same_new (o := DX.itemsO p hd) hp'
    refine ⟨p, hd, (LA page).map (fun q => (q.1, V.bl q.2)), rfl, upd_same, ?_, fun H3 l ps s3 _ pp pw hl hps => ?_⟩
    · rw [List.map_map]
      exact s2 _ _ hhd'
    obtain ⟨qs, h1, h2⟩ := perm_lift (fun q : HB => (q.1, V.bl q.2)) pp (LA page) rfl
    refine ⟨l, ps.map (fun z => V.ref z.1), rfl, SqL.of hl, fun r ro hr hro => ?_⟩
    have s4 := same_new (o := .frz ro (.tup (ps.map fun z => V.ref z.1))) hr
    refine kq _ r _ qs (((s1.trans s2).trans s3).trans s4) ⟨ro, upd_same, hro⟩ (rows_hb h2 fun z hz => s4 _ _ (hps z hz)) ⟨h1, ?_⟩
    rw [← h2, List.pairwise_map] at pw
    exact pw
def sp_queue (K : PySem.W.Frag) : Sp := fun vs H Q _ => ∃ (s : Addr) (F : List Addr) (A B : Int → List HB) (W : Int → Option Int) (PP HH : List Int) (page : Int), vs = [.ref s, .int page] ∧ Lat K H s F A B W ∧ Okk PP HH A B W ∧ page ∈ PP ∧
  ∀ (H' : Hp) (t : Addr) (xs : List V), Same H H' → RU.FzT H' t xs → Paired (HbAt H') xs (B page) → Q (.ref t) H'
theorem ok_queue (T : TX K mg) : FnOk P w K mg base CX0 4 (He.ma K (He.ga K "Latches") "queue") T.fd_Latches_queue ["self", "page"] (sp_queue K) := by
  have G_need_latch : FnOk P w K mg base CX0 3 (He.ga K "need_latch") T.fd_need_latch ["thing"] sp_need_latch := ok_need_latch T
  have b_need_latch := b_need_latch T
  refine T.F_Latches_queue.ok sc_Latches_queue (fun vs H Q E h => ?_) (fun cdv A outer st H vs Q E hr h => ?_)
  · obtain ⟨s, F, A, B, W, PP, HH, page, rfl, _⟩ := h
    rfl
  · obtain ⟨s, F, LA, LB, LW, PP, HH, page, rfl, ⟨dx, a, b, c, ds, ls, ws, x, ne1, ne2⟩, o, hp, kq⟩ := h
    refine ⟨_, PSs.nox (pss_cons (ps_expr (pe_call G_need_latch (hr.mono (by first | decide | omega)) rfl T.g_need_latch T.F_need_latch.kp b_need_latch .nil pass0 (pa_cons (pv 1) pa_nil)))
 (pss_one (ps_ret (pe_callTy RU.call_tupF rfl T.n_tuple (by decide +kernel) (pa_cons (pe_dget2 (hu_of hr) (pe_fld (pv 0) rfl) (pv 1) (pe_lst pa_nil) ⟨rfl, rfl, rfl, rfl⟩) pa_nil))))), ?_⟩
    refine ⟨_, rfl, page, rfl, (o.pr page hp).1, (o.pr page hp).2, ?_⟩
    refine ⟨_, rfl, s, _, dx, _, _, rfl, x.hs, T.cl_Latches, T.na_Latches_lines, lf_l, b, rfl, .inl ⟨_, .inl x.hb⟩, _, rfl, Nat.zero_le _, fun e he => ?_⟩
    have s1 := same_new (o := .lst []) he
    have he1 : upd H e (.lst []) e = some (.lst []) := upd_same
    have x1 := x.same s1
    generalize upd H e (.lst []) = H1 at s1 he1 x1
    refine ⟨_, DGet.k (k := .inl page) x1.hb, ?_⟩
    obtain ⟨hd, ehd, xs, hxs, hpx⟩ : ∃ hd, ((valV (ls.map (ent V.ref)) (.inl page)).getD (.ref e)) = .ref hd ∧ QuAt H1 hd (LB page) := by
      rcases x1.get_line page with ⟨d, h1, h2, h3⟩ | ⟨h1, h2, h3⟩
      · exact ⟨d, by rw [h2]; rfl, h3⟩
      · exact ⟨e, by rw [h2]; rfl, [], he1, by rw [h3]; exact .nil⟩
    rw [ehd]
    refine ⟨hd, _, rfl, SqL.of hxs, fun r ro hr hro => ?_⟩
    have s2 := same_new (o := .frz ro (.tup xs)) hr
    exact kq _ r xs (s1.trans s2) ⟨ro, upd_same, hro⟩ (paired_imp (fun _ _ q => HbAt.keep (Keep.of s2) q) hpx)
def sp_awaited (K : PySem.W.Frag) : Sp := fun vs H Q _ => ∃ (s : Addr) (F : List Addr) (A B : Int → List HB) (W : Int → Option Int) (PP HH : List Int) (hand : Int), vs = [.ref s, .int hand] ∧ Lat K H s F A B W ∧ Okk PP HH A B W ∧ hand ∈ HH ∧
  Q (((W hand).map V.int).getD .non) H
theorem ok_awaited (T : TX K mg) : FnOk P w K mg base CX0 4 (He.ma K (He.ga K "Latches") "awaited") T.fd_Latches_awaited ["self", "hand"] (sp_awaited K) := by
  have G_need_hand : FnOk P w K mg base CX0 3 (He.ga K "need_hand") T.fd_need_hand ["thing"] sp_need_hand := ok_need_hand T
  have b_need_hand := b_need_hand T
  refine T.F_Latches_awaited.ok sc_Latches_awaited (fun vs H Q E h => ?_) (fun cdv A outer st H vs Q E hr h => ?_)
  · obtain ⟨s, F, A, B, W, PP, HH, hand, rfl, _⟩ := h
    rfl
  · obtain ⟨s, F, LA, LB, LW, PP, HH, hand, rfl, ⟨dx, a, b, c, ds, ls, ws, x, ne1, ne2⟩, o, hp, kq⟩ := h
    refine ⟨_, PSs.nox (pss_cons (ps_expr (pe_call G_need_hand (hr.mono (by first | decide | omega)) rfl T.g_need_hand T.F_need_hand.kp b_need_hand .nil pass0 (pa_cons (pv 1) pa_nil)))
 (pss_one (ps_ret (pe_dget1 (hu_of hr) (pe_fld (pv 0) rfl) (pv 1) ⟨rfl, rfl, rfl, rfl⟩)))), ?_⟩
    refine ⟨_, rfl, hand, rfl, (o.hr hand hp).1, (o.hr hand hp).2, ?_⟩
    refine ⟨_, rfl, s, _, dx, _, _, rfl, x.hs, T.cl_Latches, T.na_Latches_wanted, lf_w, c, rfl, .inl ⟨_, .inl x.hc⟩, ?_⟩
    refine ⟨_, rfl, _, DGet.k (k := .inl hand) x.hc, ?_⟩
    rw [val_ent, x.wd]
    exact kq
end
end K37

namespace K37
open PySem PySem.Spec PyProof.Rows L2 RZ HX TR RP AL
/-- a page that the hand holds -/
def gripR (A : Int → List HB) (hand : Int) (q : Int × Addr) : Option HB := (alk (A q.1) hand).map fun b => (q.1, b)
def gripRs (A : Int → List HB) (hand : Int) (ds : List (Int × Addr)) : List HB := ds.filterMap (gripR A hand)
theorem grip_mem {A : Int → List HB} {hand : Int} {ds : List (Int × Addr)} {r : HB} (h : r ∈ gripRs A hand ds) : r.1 ∈ ds.map (·.1) ∧ alk (A r.1) hand = some r.2 := by
  obtain ⟨q, hq, e⟩ := List.mem_filterMap.mp h
  unfold gripR at e
  cases c : alk (A q.1) hand with
  | none => rw [c] at e; cases e
  | some b =>
    rw [c] at e
    have e' := Option.some.inj e
    rw [← e']
    exact ⟨List.mem_map_of_mem hq, c⟩
theorem grip_sub {A : Int → List HB} {hand : Int} : ∀ {ds : List (Int × Addr)}, ((gripRs A hand ds).map (·.1)).Sublist (ds.map (·.1))
  | [] => List.Sublist.slnil
  | q :: ds => by
    unfold gripRs
    rw [List.filterMap_cons]
    unfold gripR
    cases c : alk (A q.1) hand with
    | none => exact (grip_sub (ds := ds)).cons _
    | some b => exact (grip_sub (ds := ds)).cons₂ _
theorem grip_in {A : Int → List HB} {hand : Int} {ds : List (Int × Addr)} {p : Int} {b : Bool} (hp : p ∈ ds.map (·.1)) (e : alk (A p) hand = some b) : (p, b) ∈ gripRs A hand ds := by
  obtain ⟨q, hq, rfl⟩ := List.mem_map.mp hp
  refine List.mem_filterMap.mpr ⟨q, hq, ?_⟩
  unfold gripR
  rw [e]
  rfl
section
variable {P : Program} {w : World} {K : PySem.W.Frag} {mg : Str → Option Value} {base : Heap}
def sp_held (K : PySem.W.Frag) : Sp := fun vs H Q _ => ∃ (s : Addr) (F : List Addr) (A B : Int → List HB) (W : Int → Option Int) (PP HH : List Int) (hand : Int), vs = [.ref s, .int hand] ∧ Lat K H s F A B W ∧ Okk PP HH A B W ∧ hand ∈ HH ∧
  ∀ (H' : Hp) (t : Addr) (xs : List V) (qs : List HB), Same H H' → RU.FzT H' t xs → Paired (HbAt H') xs qs → (∀ p b, (p, b) ∈ qs ↔ (hand, b) ∈ A p) → qs.Pairwise (fun e f => e.1 < f.1) → Q (.ref t) H'
theorem ok_held (T : TX K mg) : FnOk P w K mg base CX0 4 (He.ma K (He.ga K "Latches") "held") T.fd_Latches_held ["self", "hand"] (sp_held K) := by
  have G_need_hand : FnOk P w K mg base CX0 3 (He.ga K "need_hand") T.fd_need_hand ["thing"] sp_need_hand := ok_need_hand T
  have b_need_hand := b_need_hand T
  refine T.F_Latches_held.ok sc_Latches_held (fun vs H Q E h => ?_) (fun cdv A outer st H vs Q E hr h => ?_)
  · obtain ⟨s, F, A, B, W, PP, HH, hand, rfl, _⟩ := h
    rfl
  · obtain ⟨s, F, LA, LB, LW, PP, HH, hand, rfl, ⟨dx, a, b, c, ds, ls, ws, x, ne1, ne2⟩, o, hh, kq⟩ := h
    have ap := x.apart
    have hdl := x.dl o ne1
    refine ⟨_, PSs.nox (pss_cons (ps_expr (pe_call G_need_hand (hr.mono (by first | decide | omega)) rfl T.g_need_hand T.F_need_hand.kp b_need_hand .nil pass0 (pa_cons (pv 1) pa_nil)))
 (pss_one (ps_ret (pe_callTy RU.call_tupF rfl T.n_tuple (by decide +kernel) (pa_cons (pe_callB HS.cr_sortedRow rfl T.n_sorted (by decide +kernel) (pa_cons (pe_lock (pe_lc (own := [("page", 2), ("hands", 3)]) (g := gTup K 2 (gCons (gName 2) (gCons (gName 3) gNil))) (tt := _) rfl sc_Latches_held.nd (pi_items (pe_fld (pv 0) rfl)) (blkOk_by (own := [("page", 2), ("hands", 3)]) (N := ["self", "hand", "page", "hands"]) (sc := defScope s_Latches_held) (by decide +kernel)) (fun _ _ _ _ _ => (pg_tup rfl (pgs_cons (pg_name (i := 2) sc_Latches_held.nd rfl (Or.inl rfl)) (pgs_cons (pg_name (i := 3) sc_Latches_held.nd rfl (Or.inl rfl)) pgs_nil)))) (fun _ _ _ _ _ => pts_one (pt_cmp (pc_din (hu_of hr) (pv 1) (pv 3)))) (fun _ _ _ _ _ => (pe_tup (pa_cons (pv 2) (pa_cons (pe_dget (hu_of hr) (pv 3) (pv 1) (fun _ _ => rfl)) pa_nil)))))) pa_nil)) pa_nil))))), ?_⟩
    refine ⟨_, rfl, hand, rfl, (o.hr hand hh).1, (o.hr hand hh).2, ?_⟩
    refine ⟨a, .dK (ds.map (ent V.ref)), x.ha, trivial, fun od => ?_⟩
    have hsf : upd H a (.frz od (.dK (ds.map (ent V.ref)))) s = some (.ins (He.ga K "Latches") dx (lfs a b c)) := by
      rw [upd_ne ap.sa]
      exact x.hs
    have haf : upd H a (.frz od (.dK (ds.map (ent V.ref)))) a = some (.frz od (.dK (ds.map (ent V.ref)))) := upd_same
    have hdf : ∀ q ∈ ds, HdAt (upd H a (.frz od (.dK (ds.map (ent V.ref))))) q.2 (LA q.1) := fun q hq => by
      show upd H a _ q.2 = _
      rw [upd_ne (ap.sd q hq).2.1]
      exact x.dd q hq
    have nof : ∀ b, b ≠ a → upd H a (.frz od (.dK (ds.map (ent V.ref)))) b = H b := fun b n => upd_ne n
    generalize upd H a (.frz od (.dK (ds.map (ent V.ref)))) = Hf at hsf haf hdf nof
    refine ⟨_, rfl, s, _, dx, _, _, rfl, hsf, T.cl_Latches, T.na_Latches_holding, lf_h, a, od, _, rfl, haf, fun D hD => ?_⟩
    have ne_D : ∀ {b u}, Hf b = some u → b ≠ D := fun e z => by rw [z, hD] at e; cases e
    refine ⟨fun i m H' => i + m = ds.length ∧ Same Hf H' ∧ ∃ ps : List (Addr × Int × V), H' D = some (.lst (ps.map fun z => V.ref z.1)) ∧ (∀ z ∈ ps, H' z.1 = some (.tup [.int z.2.1, z.2.2])) ∧ (gripRs LA hand (ds.take i)).map (fun q => (q.1, V.bl q.2)) = ps.map (·.2), ⟨ds.length, Nat.zero_add _, same_new hD, [], upd_same, (fun z hz => nomatch hz), rfl⟩, ?_⟩
    rintro i m H' ⟨im, s1, ps, hDp, hps, eps⟩
    by_cases hi : i < ds.length
    · refine .inr ⟨⟨s1 _ _ haf, by rw [List.length_map]; exact hi⟩, fun H' => ∃ m', m' < m ∧ i + 1 + m' = ds.length ∧ Same Hf H' ∧ ∃ ps : List (Addr × Int × V), H' D = some (.lst (ps.map fun z => V.ref z.1)) ∧ (∀ z ∈ ps, H' z.1 = some (.tup [.int z.2.1, z.2.2])) ∧ (gripRs LA hand (ds.take (i + 1))).map (fun q => (q.1, V.bl q.2)) = ps.map (·.2), (fun H' ⟨m', h1, h2⟩ => ⟨m', h1, h2⟩), ?_⟩
      rintro _ H2 ⟨Tn, k, v, ek, rfl, hTn, rfl⟩
      rw [List.getElem?_map, List.getElem?_eq_getElem hi] at ek
      have ek' := Option.some.inj ek
      obtain ⟨ekv, ev⟩ : kV k = .int ds[i].1 ∧ v = .ref ds[i].2 := by
        unfold ent at ek'
        injection ek' with e1 e2
        exact ⟨by rw [← e1]; rfl, e2.symm⟩
      rw [ekv, ev]
      have mi : ds[i] ∈ ds := List.getElem_mem hi
      have s2 := same_new (o := .tup [.int ds[i].1, .ref ds[i].2]) hTn
      have hT2 : upd H' Tn (.tup [.int ds[i].1, .ref ds[i].2]) Tn = some (.tup [.int ds[i].1, .ref ds[i].2]) := upd_same
      generalize upd H' Tn (.tup [.int ds[i].1, .ref ds[i].2]) = H2 at s2 hT2
      have hd2 : H2 ds[i].2 = some (.dK ((LA ds[i].1).map (ent V.bl))) := s2 _ _ (s1 _ _ (hdf _ mi))
      have et : gripRs LA hand (ds.take (i + 1)) = gripRs LA hand (ds.take i) ++ (gripR LA hand ds[i]).toList := by
        unfold gripRs
        rw [List.take_add_one, List.getElem?_eq_getElem hi, List.filterMap_append]
        show _ ++ [ds[i]].filterMap (gripR LA hand) = _
        cases h : gripR LA hand ds[i] <;> simp [h]
      refine ⟨Tn, _, rfl, .inl (.inl hT2), rfl, ?_⟩
      refine ⟨_, _, rfl, _, _, rfl, rfl, ?_⟩
      refine ⟨rfl, ?_⟩
      refine ⟨_, rfl, _, rfl, ds[i].2, _, rfl, DGet.k (k := .inl hand) hd2, ?_⟩
      rw [val_ent]
      cases cg : alk (LA ds[i].1) hand with
      | none =>
        refine ⟨false, rfl, iteF ?_⟩
        refine ⟨m - 1, by omega, by omega, s1.trans s2, ps, s2 _ _ hDp, fun z hz => s2 _ _ (hps z hz), ?_⟩
        rw [et, ← eps]
        unfold gripR
        rw [cg]
        simp
      | some bb =>
        refine ⟨true, rfl, iteT ⟨_, rfl, ?_⟩⟩
        have vv : valV ((LA ds[i].1).map (ent V.bl)) (.inl hand) = some (.bl bb) := by rw [val_ent, cg]; rfl
        refine ⟨_, rfl, _, rfl, ds[i].2, .bl bb, rfl, by rw [← vv]; exact DGet.k (k := .inl hand) hd2, by show 2 ≤ sizeLine; decide, fun r hr => ?_⟩
        have s3 := same_new (o := .tup [.int ds[i].1, .bl bb]) hr
        have hr3 : upd H2 r (.tup [.int ds[i].1, .bl bb]) r = some (.tup [.int ds[i].1, .bl bb]) := upd_same
        generalize upd H2 r (.tup [.int ds[i].1, .bl bb]) = H3 at s3 hr3
        have hl := congrArg List.length eps
        rw [List.length_map, List.length_map] at hl
        have hl2 : (gripRs LA hand (ds.take i)).length ≤ 100 := by
          have := (grip_sub (A := LA) (hand := hand) (ds := ds.take i)).length_le
          rw [List.length_map, List.length_map, List.length_take] at this
          omega
        have hDp3 := s3 _ _ (s2 _ _ hDp)
        have key : ∀ b u, b ≠ D → H3 b = some u → upd H3 D (.lst ((ps.map fun z => V.ref z.1) ++ [.ref r])) b = some u := fun b u n e => by rw [upd_ne n]; exact e
        refine ⟨_, hDp3, by rw [List.length_map]; unfold sizeLine; omega, m - 1, by omega, by omega, fun b u e => key b u (ne_D e) (s3 _ _ (s2 _ _ (s1 _ _ e))), ps ++ [(r, ds[i].1, .bl bb)], ?_, fun z hz => ?_, ?_⟩
        · rw [List.map_append]
          exact upd_same
        · rcases List.mem_append.mp hz with h | h
          · have h1 := s3 _ _ (s2 _ _ (hps z h))
            exact key _ _ (fun e => by rw [e, hDp3] at h1; cases h1) h1
          · rw [List.mem_singleton.mp h]
            exact key _ _ (fun e => by rw [show r = D from e, hDp3] at hr3; cases hr3) hr3
        · rw [et, List.map_append, List.map_append, eps]
          unfold gripR
          rw [cg]
          rfl
    · have ei : i = ds.length := by omega
      refine .inl ⟨⟨s1 _ _ haf, by rw [List.length_map]; omega⟩, s1 _ _ haf, ?_⟩
      rw [ei, List.take_length] at eps
      have nDa : D ≠ a := (ne_D haf).symm
      have s3 : Same H (upd H' a (.dK (ds.map (ent V.ref)))) := fun b u e => by
        by_cases cb : b = a
        · rw [cb, upd_same, ← e, cb, x.ha]
        · rw [upd_ne cb]
          exact s1 _ _ (by rw [nof b cb]; exact e)
      have hD3 : upd H' a (.dK (ds.map (ent V.ref))) D = some (.lst (ps.map fun z => V.ref z.1)) := by
        rw [upd_ne nDa]
        exact hDp
      have hps3 : ∀ z ∈ ps, upd H' a (.dK (ds.map (ent V.ref))) z.1 = some (.tup [.int z.2.1, z.2.2]) := fun z hz => by
        have h1 := hps z hz
        rw [upd_ne (fun e => by rw [e, s1 _ _ haf] at h1; cases h1)]
        exact h1
      generalize upd H' a (.dK (ds.map (ent V.ref))) = H3 at s3 hD3 hps3
      have nq : (ps.map fun z => z.2.1).Nodup := by
        have e1 : (ps.map fun z => z.2.1) = (gripRs LA hand ds).map (·.1) := by
          have e2 := congrArg (List.map (·.1)) eps
          rw [List.map_map, List.map_map] at e2
          exact e2.symm
        rw [e1]
        exact x.nd.sublist grip_sub
      refine ⟨D, ps, rfl, SqL.of hD3, hps3, nq, fun H4 l qs s4 _ pp pw hl => ?_⟩
      obtain ⟨rs, h1, h2⟩ := perm_lift (fun q : HB => (q.1, V.bl q.2)) (pp.map (·.2)) (gripRs LA hand ds) eps
      refine ⟨l, qs.map (fun z => V.ref z.1), rfl, SqL.of hl, fun r ro hr hro => ?_⟩
      have s5 := same_new (o := .frz ro (.tup (qs.map fun z => V.ref z.1))) hr
      refine kq _ r _ rs ((s3.trans s4).trans s5) ⟨ro, upd_same, hro⟩ (rows_hb h2 fun z hz => s5 _ _ (s4 _ _ (hps3 z (pp.mem_iff.mp hz)))) (fun p b => ?_) ?_
      · rw [h1.mem_iff]
        constructor
        · intro hm
          exact alk_mem (grip_mem hm).2
        · intro hm
          refine grip_in (Classical.byContradiction fun z => ?_) (mem_alk (o.na p) hm)
          rw [x.dn p z] at hm
          cases hm
      · have e3 : (qs.map (·.2)).Pairwise (fun e f => e.1 < f.1) := List.pairwise_map.mpr pw
        rw [← h2, List.pairwise_map] at e3
        exact e3
end
end K37

namespace K37
open PySem PySem.Spec PyProof.Rows L2 RZ HX TR RP AL LV2
abbrev LK := List (Addr × HO)
def lockW : LK → List Obj → Hp → Hp
  | q :: L, o :: os, H => lockW L os (upd H q.1 (.frz o q.2))
  | _, _, H => H
def lockP : LK → List Obj → VK → VK
  | q :: L, o :: os, Q => lockP L os fun v H' => H' q.1 = some (.frz o q.2) ∧ Q v (upd H' q.1 q.2)
  | _, _, Q => Q
theorem locks_all {t : TE} {σ : L2.St} : ∀ (L : LK) (H : Hp) (Q : VK), (∀ q ∈ L, H q.1 = some q.2 ∧ Mut (some q.2)) → (L.map (·.1)).Nodup → (∀ os : List Obj, os.length = L.length → t σ (lockW L os H) (lockP L os Q)) → tLocks L.length t σ H Q
  | [], H, Q, _, _, h => h [] rfl
  | q :: L, H, Q, hL, nd, h => by
    obtain ⟨n1, n2⟩ := List.nodup_cons.mp nd
    refine ⟨q.1, q.2, (hL q (List.mem_cons_self ..)).1, (hL q (List.mem_cons_self ..)).2, fun od => ?_⟩
    refine locks_all L _ _ (fun r hr => ?_) n2 fun os ho => h (od :: os) (by rw [List.length_cons, List.length_cons, ho])
    rw [upd_ne (fun e => n1 (by show q.1 ∈ _; rw [← e]; exact List.mem_map_of_mem (f := (·.1)) hr))]
    exact hL r (List.mem_cons_of_mem _ hr)
theorem lock_ne : ∀ {L : LK} {os : List Obj} {H : Hp} {b : Addr}, b ∉ L.map (·.1) → lockW L os H b = H b
  | [], _, _, _, _ => by unfold lockW; rfl
  | _ :: _, [], _, _, _ => rfl
  | q :: L, o :: os, H, b, h => by
    rw [List.map_cons, List.mem_cons, not_or] at h
    show lockW L os (upd H q.1 (.frz o q.2)) b = _
    rw [lock_ne h.2, upd_ne h.1]
theorem lock_at : ∀ {L : LK} {os : List Obj} {H : Hp} {q : Addr × HO}, os.length = L.length → (L.map (·.1)).Nodup → q ∈ L → ∃ o, lockW L os H q.1 = some (.frz o q.2)
  | r :: L, [], _, _, e, _, _ => by cases e
  | r :: L, o :: os, H, q, e, nd, h => by
    obtain ⟨n1, n2⟩ := List.nodup_cons.mp nd
    show ∃ o', lockW L os (upd H r.1 (.frz o r.2)) q.1 = _
    rcases List.mem_cons.mp h with rfl | h
    · exact ⟨o, by rw [lock_ne n1]; exact upd_same⟩
    · exact lock_at (Nat.succ.inj e) n2 h
theorem lock_post {v : V} : ∀ {L : LK} {os : List Obj} {H H' : Hp} {Q : VK}, os.length = L.length → (L.map (·.1)).Nodup → (∀ q ∈ L, H q.1 = some q.2) → Same (lockW L os H) H' → (∀ H'', Same H H'' → (∀ b, b ∉ L.map (·.1) → H'' b = H' b) → Q v H'') → lockP L os Q v H'
  | [], _, H, H', Q, _, _, _, s, kq => by
    unfold lockP
    exact kq H' (by unfold lockW at s; exact s) fun _ _ => rfl
  | r :: L, [], _, _, _, e, _, _, _, _ => by cases e
  | r :: L, o :: os, H, H', Q, e, nd, hL, s, kq => by
    obtain ⟨n1, n2⟩ := List.nodup_cons.mp nd
    show lockP L os (fun v H' => H' r.1 = some (.frz o r.2) ∧ Q v (upd H' r.1 r.2)) v H'
    refine lock_post (H := upd H r.1 (.frz o r.2)) (Nat.succ.inj e) n2 (fun q hq => ?_) s fun H2 s2 h2 => ⟨s2 _ _ upd_same, kq _ (fun b u eb => ?_) fun b nb => ?_⟩
    · rw [upd_ne (fun z => n1 (by show r.1 ∈ _; rw [← z]; exact List.mem_map_of_mem (f := (·.1)) hq))]
      exact hL q (List.mem_cons_of_mem _ hq)
    · by_cases c : b = r.1
      · rw [c, upd_same, ← eb, c, hL r (List.mem_cons_self ..)]
      · rw [upd_ne c]
        exact s2 _ _ (by rw [upd_ne c]; exact eb)
    · rw [List.map_cons, List.mem_cons, not_or] at nb
      rw [upd_ne nb.1]
      exact h2 b nb.2
theorem sum_filter {f : Int → Nat} : ∀ ks : List Int, (ks.map f).sum = ((ks.filter fun p => decide (f p ≠ 0)).map f).sum
  | [] => rfl
  | k :: ks => by
    rw [List.map_cons, List.sum_cons, List.filter_cons, sum_filter ks]
    by_cases c : f k = 0
    · rw [if_neg (by simp [c]), c, Nat.zero_add]
    · rw [if_pos (by simp [c]), List.map_cons, List.sum_cons]
theorem sum_perm {f : Int → Nat} {xs ys : List Int} (h : xs.Perm ys) : (xs.map f).sum = (ys.map f).sum := by
  induction h with
  | nil => rfl
  | cons x _ ih => rw [List.map_cons, List.map_cons, List.sum_cons, List.sum_cons, ih]
  | swap x y l => simp only [List.map_cons, List.sum_cons]; omega
  | trans _ _ i j => exact i.trans j
theorem sum_same {f : Int → Nat} {xs ys : List Int} (nx : xs.Nodup) (ny : ys.Nodup) (hx : ∀ p, f p ≠ 0 → p ∈ xs) (hy : ∀ p, f p ≠ 0 → p ∈ ys) : (xs.map f).sum = (ys.map f).sum := by
  rw [sum_filter xs, sum_filter ys]
  refine sum_perm ((List.perm_ext_iff_of_nodup (nx.sublist List.filter_sublist) (ny.sublist List.filter_sublist)).mpr fun p => ?_)
  rw [List.mem_filter, List.mem_filter]
  constructor
  · rintro ⟨_, h⟩
    exact ⟨hy p (of_decide_eq_true h), h⟩
  · rintro ⟨_, h⟩
    exact ⟨hx p (of_decide_eq_true h), h⟩
section
variable {P : Program} {w : World} {K : PySem.W.Frag} {mg : Str → Option Value} {base : Heap}
def cnt (A : Int → List HB) (ds : List (Int × Addr)) : Nat := (ds.map fun q => (A q.1).length).sum
theorem cnt_take {A : Int → List HB} {ds : List (Int × Addr)} {i : Nat} (hi : i < ds.length) : cnt A (ds.take (i + 1)) = cnt A (ds.take i) + (A ds[i].1).length := by
  unfold cnt
  rw [List.take_add_one, List.getElem?_eq_getElem hi, List.map_append, List.sum_append]
  simp
theorem cnt_le {A : Int → List HB} (h : ∀ p, (A p).length ≤ 100) : ∀ ds : List (Int × Addr), cnt A ds ≤ 100 * ds.length
  | [] => Nat.le_refl _
  | q :: ds => by
    have := cnt_le h ds
    have := h q.1
    unfold cnt at *
    rw [List.map_cons, List.sum_cons, List.length_cons]
    omega
def sp_len (K : PySem.W.Frag) : Sp := fun vs H Q _ => ∃ (s : Addr) (F : List Addr) (A B : Int → List HB) (W : Int → Option Int) (PP HH ks : List Int), vs = [.ref s] ∧ Lat K H s F A B W ∧ Okk PP HH A B W ∧ ks.Nodup ∧ (∀ p, A p ≠ [] → p ∈ ks) ∧
  ∀ H' : Hp, Same H H' → Q (.int ((ks.map fun p => (A p).length).sum : Nat)) H'
theorem ok_len (T : TX K mg) : FnOk P w K mg base CX0 1 (He.ma K (He.ga K "Latches") "__len__") T.fd_Latches_len ["self"] (sp_len K) := by
  refine T.F_Latches_len.ok sc_Latches_len (fun vs H Q E h => ?_) (fun cdv A outer st H vs Q E hr h => ?_)
  · obtain ⟨s, F, A, B, W, PP, HH, ks, rfl, _⟩ := h
    rfl
  · obtain ⟨s, F, LA, LB, LW, PP, HH, ks, rfl, ⟨dx, a, b, c, ds, ls, ws, x, ne1, ne2⟩, o, nk, hk, kq⟩ := h
    have ap := x.apart
    have hdl := x.dl o ne1
    have esum : (ks.map fun p => (LA p).length).sum = cnt LA ds := by
      have e1 : cnt LA ds = ((ds.map (·.1)).map fun p => (LA p).length).sum := by
        unfold cnt
        rw [List.map_map]
        rfl
      rw [e1]
      refine sum_same nk x.nd (fun p hp => hk p fun z => hp (by rw [z]; rfl)) fun p hp => Classical.byContradiction fun z => hp ?_
      rw [x.dn p z]
      rfl
    rw [esum] at kq
    refine ⟨_, PSs.nox (pss_one (ps_ret (pe_callB call_len_seq rfl T.n_len PySem.boot_len (pa_cons (LV2.pe_lockM (pe_lc2 (own := [("hands", 1), ("hand", 2)]) (vs1 := [2]) (g := gName 1) (g1 := gName 2) (tt := tYes) (tt1 := tYes) rfl sc_Latches_len.nd (pi_values (pe_fld (pv 0) rfl)) (blkOk_by (own := [("hands", 1), ("hand", 2)]) (N := ["self", "hands", "hand"]) (sc := defScope s_Latches_len) (by decide +kernel)) (by decide) (fun _ _ _ _ _ => (pg_name (i := 1) sc_Latches_len.nd rfl (Or.inl rfl))) (fun _ _ _ _ _ => pts_nil) (fun _ _ _ _ _ => (pi_keys (pv 1))) (fun _ _ _ _ _ => (pg_name (i := 2) sc_Latches_len.nd rfl (Or.inl rfl))) (fun _ _ _ _ _ => pts_nil) (fun _ _ _ _ _ => (pv 2)))) pa_nil)))), ?_⟩
    obtain ⟨L, eL⟩ : ∃ L : LK, L = (a, HO.dK (ds.map (ent V.ref))) :: ds.map fun q => (q.2, HO.dK ((LA q.1).map (ent V.bl))) := ⟨_, rfl⟩
    have ek : L.map (·.1) = a :: ds.map (·.2) := by
      rw [eL, List.map_cons, List.map_map]
      rfl
    have nL : (L.map (·.1)).Nodup := by
      rw [ek]
      refine List.nodup_cons.mpr ⟨fun h => ?_, x.vals.1⟩
      obtain ⟨q, hq, e⟩ := List.mem_map.mp h
      exact (ap.sd q hq).2.1 e
    have hL : ∀ q ∈ L, H q.1 = some q.2 ∧ Mut (some q.2) := fun q hq => by
      rw [eL] at hq
      rcases List.mem_cons.mp hq with rfl | hq
      · exact ⟨x.ha, trivial⟩
      · obtain ⟨r, hr, rfl⟩ := List.mem_map.mp hq
        exact ⟨x.dd r hr, trivial⟩
    refine ⟨L.length, locks_all L H _ hL nL fun os ho => ?_⟩
    have hs : lockW L os H s = some (.ins (He.ga K "Latches") dx (lfs a b c)) := by
      rw [lock_ne (by
        rw [ek, List.mem_cons, not_or]
        exact ⟨ap.sa, fun h => by
          obtain ⟨q, hq, e⟩ := List.mem_map.mp h
          exact (ap.sd q hq).1 e⟩)]
      exact x.hs
    obtain ⟨oa, ha⟩ : ∃ oa, lockW L os H a = some (.frz oa (.dK (ds.map (ent V.ref)))) := lock_at (q := (a, _)) ho nL (by rw [eL]; exact List.mem_cons_self ..)
    have hd : ∀ q ∈ ds, ∃ oq, lockW L os H q.2 = some (.frz oq (.dK ((LA q.1).map (ent V.bl)))) := fun q hq => lock_at (q := (q.2, HO.dK ((LA q.1).map (ent V.bl)))) ho nL (by rw [eL]; exact List.mem_cons_of_mem _ (List.mem_map_of_mem (f := fun q => (q.2, HO.dK ((LA q.1).map (ent V.bl)))) hq))
    have post : ∀ H' v Q, Same (lockW L os H) H' → (∀ H'', Same H H'' → (∀ b, b ∉ L.map (·.1) → H'' b = H' b) → Q v H'') → lockP L os Q v H' := fun H' v Q s kq => lock_post ho nL (fun q hq => (hL q hq).1) s kq
    generalize lockW L os H = Hf at hs ha hd post
    refine ⟨_, rfl, s, _, dx, _, _, rfl, hs, T.cl_Latches, T.na_Latches_holding, lf_h, a, oa, _, rfl, ha, fun D hD => ?_⟩
    have ne_D : ∀ {b u}, Hf b = some u → b ≠ D := fun e z => by rw [z, hD] at e; cases e
    refine ⟨fun i m H' => i + m = ds.length ∧ Same Hf H' ∧ ∃ xs : List V, H' D = some (.lst xs) ∧ xs.length = cnt LA (ds.take i), ⟨ds.length, Nat.zero_add _, same_new hD, [], upd_same, rfl⟩, ?_⟩
    rintro i m H' ⟨im, s1, xs, hDp, hxs⟩
    by_cases hi : i < ds.length
    · refine .inr ⟨⟨s1 _ _ ha, by rw [List.length_map]; exact hi⟩, fun H' => ∃ m', m' < m ∧ i + 1 + m' = ds.length ∧ Same Hf H' ∧ ∃ xs : List V, H' D = some (.lst xs) ∧ xs.length = cnt LA (ds.take (i + 1)), (fun H' ⟨m', h1, h2⟩ => ⟨m', h1, h2⟩), ?_⟩
      rintro v H2 ⟨rfl, k, ek⟩
      rw [List.getElem?_map, List.getElem?_eq_getElem hi] at ek
      have ev : v = .ref ds[i].2 := by
        have ek' := Option.some.inj ek
        unfold ent at ek'
        injection ek' with e1 e2
        exact e2.symm
      rw [ev]
      have mi : ds[i] ∈ ds := List.getElem_mem hi
      obtain ⟨oq, hq⟩ := hd _ mi
      have et := cnt_take (A := LA) hi
      refine ⟨rfl, ?_⟩
      dsimp only [tYes]
      refine iteT ?_
      refine ⟨_, rfl, ds[i].2, oq, rfl, .inl ⟨_, s1 _ _ hq, ?_⟩⟩
      refine ⟨fun j k H' => j + k = (LA ds[i].1).length ∧ Same Hf H' ∧ ∃ xs : List V, H' D = some (.lst xs) ∧ xs.length = cnt LA (ds.take i) + j, ⟨_, Nat.zero_add _, s1, xs, hDp, hxs⟩, ?_⟩
      rintro j k H3 ⟨jk, s3, xs3, hD3, hx3⟩
      have hall : cnt LA (ds.take i) ≤ 10000 := by
        have h1 := cnt_le o.al (ds.take i)
        rw [List.length_take] at h1
        omega
      have hai := o.al ds[i].1
      by_cases hj : j < (LA ds[i].1).length
      · refine .inr ⟨⟨s3 _ _ hq, by rw [List.length_map]; exact hj⟩, fun H' => ∃ k', k' < k ∧ j + 1 + k' = (LA ds[i].1).length ∧ Same Hf H' ∧ ∃ xs : List V, H' D = some (.lst xs) ∧ xs.length = cnt LA (ds.take i) + (j + 1), (fun H' ⟨m', h1, h2⟩ => ⟨m', h1, h2⟩), ?_⟩
        rintro v2 H4 ⟨rfl, k2, w2, e2, ew⟩
        refine ⟨rfl, ?_⟩
        dsimp only [tYes]
        refine iteT ?_
        refine ⟨_, rfl, xs3, hD3, by unfold sizeLine; omega, k - 1, by omega, by omega, fun b u e => ?_, xs3 ++ [v2], upd_same, by rw [List.length_append, hx3]; rfl⟩
        rw [upd_ne (ne_D e)]
        exact s3 _ _ e
      · refine .inl ⟨⟨s3 _ _ hq, by rw [List.length_map]; omega⟩, m - 1, by omega, by omega, s3, xs3, hD3, ?_⟩
        rw [et]
        omega
    · have ei : i = ds.length := by omega
      refine .inl ⟨⟨s1 _ _ ha, by rw [List.length_map]; omega⟩, post _ _ _ s1 fun H2 s2 h2 => ?_⟩
      have hD2 : H2 D = some (.lst xs) := by
        rw [h2 D fun m => ?_]
        · exact hDp
        · rw [ek] at m
          rcases List.mem_cons.mp m with e | m
          · exact ne_D ha e.symm
          · obtain ⟨q, hq, e⟩ := List.mem_map.mp m
            obtain ⟨oq, h3⟩ := hd q hq
            exact ne_D h3 e
      rw [ei, List.take_length] at hxs
      refine ⟨D, xs, rfl, .inl (SqL.of hD2), ?_⟩
      rw [hxs]
      exact kq _ s2
end
end K37

namespace K37
open PySem PySem.Spec PyProof.Rows L2 RZ HX TR
theorem rep_true (n : Nat) : (List.replicate n true).all id = true := by
  refine List.all_eq_true.mpr fun x hx => ?_
  rw [(List.mem_replicate.mp hx).2]
  rfl
theorem rep_snoc (n : Nat) : (List.replicate n true).map V.bl ++ [V.bl true] = (List.replicate (n + 1) true).map V.bl := by
  rw [List.replicate_succ', List.map_append]
  rfl
end K37

namespace K37
open PySem PySem.Spec PyProof.Rows L2 RZ HX TR
/-- data that _law_same looks at, of that depth -/
def SameD : Nat → PyData → Prop
  | _ + 1, .none => True
  | _ + 1, .bool _ => True
  | _ + 1, .int _ => True
  | _ + 1, .str _ => True
  | N + 1, .tuple ds => ds.length ≤ 100000 ∧ ∀ d ∈ ds, SameD N d
  | _, _ => False
theorem SameD.tup {N : Nat} {ds : List PyData} (hl : ds.length ≤ 100000) (h : ∀ d ∈ ds, SameD N d) : SameD (N + 1) (.tuple ds) := ⟨hl, h⟩
theorem SameD.int {N : Nat} {i : Int} : SameD (N + 1) (.int i) := True.intro
theorem SameD.str {N : Nat} {i : Str} : SameD (N + 1) (.str i) := True.intro
theorem SameD.none {N : Nat} : SameD (N + 1) .none := True.intro
theorem tyT {K : PySem.W.Frag} {H : Hp} {a : Addr} {xs : List V} (h : SqT K H a xs) : TyX K H (.ref a) (.type "tuple") := by
  rcases h with (h | ⟨o, h⟩) | ⟨o, its, n, h1, h2, _⟩
  · exact .base (.tup h)
  · exact .fTuple h
  · exact .kTuple h1 h2
theorem dpAll_len {K : PySem.W.Frag} {H : Hp} : ∀ {xs : List V} {ds : List PyData}, DpAll K H xs ds → xs.length = ds.length
  | _, _, .nil => rfl
  | _, _, .cons _ h => congrArg Nat.succ (dpAll_len h)
theorem dpAll_get {K : PySem.W.Frag} {H : Hp} : ∀ {xs : List V} {ds : List PyData}, DpAll K H xs ds → ∀ {i : Nat} {x : V}, xs[i]? = some x → ∃ d, ds[i]? = some d ∧ Dp K H x d
  | _, _, .nil, i, x, h => by simp at h
  | _, _, .cons r _, 0, x, h => by
    cases h
    exact ⟨_, rfl, r⟩
  | _, _, .cons _ rs, i + 1, x, h => dpAll_get rs (i := i) h
theorem sqT_same {K : PySem.W.Frag} {H H' : Hp} {a : Addr} {xs : List V} (s : Same H H') (h : SqT K H a xs) : SqT K H' a xs := by
  rcases h with (h | ⟨o, h⟩) | h
  · exact .inl (.inl (s _ _ h))
  · exact .inl (.inr ⟨o, s _ _ h⟩)
  · exact .inr h
theorem sqL_same {K : PySem.W.Frag} {H H' : Hp} {a : Addr} {xs : List V} (s : Same H H') (h : SqL K H a xs) : SqL K H' a xs := by
  rcases h with (h | ⟨o, h⟩) | h
  · exact .inl (.inl (s _ _ h))
  · exact .inl (.inr ⟨o, s _ _ h⟩)
  · exact .inr h
mutual
theorem dp_same {K : PySem.W.Frag} {H H' : Hp} (s : Same H H') : ∀ {d : PyData} {v : V}, Dp K H v d → Dp K H' v d
  | _, _, .non => .non
  | _, _, .bl b => .bl b
  | _, _, .int i => .int i
  | _, _, .str x => .str x
  | _, _, .lst h r => .lst (sqL_same s h) (dpAll_same s r)
  | _, _, .tup h r => .tup (sqT_same s h) (dpAll_same s r)
theorem dpAll_same {K : PySem.W.Frag} {H H' : Hp} (s : Same H H') : ∀ {ds : List PyData} {vs : List V}, DpAll K H vs ds → DpAll K H' vs ds
  | _, _, .nil => .nil
  | _, _, .cons h r => .cons (dp_same s h) (dpAll_same s r)
end
end K37

namespace K37
open PySem PySem.Spec PyProof.Rows L2 RZ HX TR
section
variable {P : Program} {w : World} {K : PySem.W.Frag} {mg : Str → Option Value} {base : Heap}
def sp_law_same (K : PySem.W.Frag) (N : Nat) : Sp := fun vs H Q _ => ∃ (x y : V) (d : PyData), vs = [x, y] ∧ SameD N d ∧ Dp K H x d ∧ Dp K H y d ∧ ∀ H', Same H H' → Q (.bl true) H'
theorem ok_law_same (T : TX K mg) : ∀ N : Nat, FnOk P w K mg base CX0 (N + 1) (He.ga K "_law_same") T.fd_law_same ["found", "due"] (sp_law_same K N) := by
  intro N
  induction N with
  | zero =>
    refine T.F_law_same.ok sc_law_same (fun vs H Q E h => ?_) (fun cdv A outer st H vs Q E hr h => ?_)
    · obtain ⟨x, y, d, rfl, _⟩ := h
      rfl
    · obtain ⟨x, y, d, rfl, h, _⟩ := h
      exact h.elim
  | succ N ih =>
    have G_law_same := ih
    have b_law_same := b_law_same T
    refine T.F_law_same.ok sc_law_same (fun vs H Q E h => ?_) (fun cdv A outer st H vs Q E hr h => ?_)
    · obtain ⟨x, y, d, rfl, _⟩ := h
      rfl
    · obtain ⟨x, y, d, rfl, hd, hx, hy, kq⟩ := h
      refine ⟨_, PSs.nox (pss_cons (ps_if (pt_val (pe_callB call_isi rfl T.n_isinstance (by decide +kernel) (pa_cons (pv 1) (pa_cons (pe_ty "tuple" T.n_tuple (by decide +kernel)) pa_nil))))
 (pss_cons (ps_if (PW.pt (pw_or (pt_not (pt_val (pe_callB call_isi rfl T.n_isinstance (by decide +kernel) (pa_cons (pv 0) (pa_cons (pe_ty "tuple" T.n_tuple (by decide +kernel)) pa_nil))))) (pw_or1 (pt_cmpR op_ne (pe_callB call_len_seq rfl T.n_len PySem.boot_len (pa_cons (pv 0) pa_nil)) (pe_callB call_len_seq rfl T.n_len PySem.boot_len (pa_cons (pv 1) pa_nil)) (nomark _)))))
 (pss_one (ps_ret pe_bl))
 pss_nil)
 (pss_one (ps_ret (pe_callB (cr_all rfl) rfl T.n_all (by decide +kernel) (pa_cons (pe_lc (own := [("one", 2), ("other", 3)]) (g := gTup K 2 (gCons (gName 2) (gCons (gName 3) gNil))) (tt := tYes) rfl sc_law_same.nd (pi_zipA rfl T.n_zip (pa_cons (pv 0) (pa_cons (pv 1) pa_nil))) (blkOk_by (own := [("one", 2), ("other", 3)]) (N := ["found", "due", "one", "other"]) (sc := defScope s_law_same) (by decide +kernel)) (fun _ _ _ _ _ => (pg_tup rfl (pgs_cons (pg_name (i := 2) sc_law_same.nd rfl (Or.inl rfl)) (pgs_cons (pg_name (i := 3) sc_law_same.nd rfl (Or.inl rfl)) pgs_nil)))) (fun _ _ _ _ _ => pts_nil) (fun _ _ _ _ _ => (pe_call G_law_same (hr.mono (by first | decide | omega)) rfl T.g_law_same T.F_law_same.kp b_law_same .nil pass0 (pa_cons (pv 2) (pa_cons (pv 3) pa_nil))))) pa_nil)))))
 pss_nil)
 (pss_cons (ps_if (pt_cmpR op_isN (pv 1) pe_non (nomark _))
 (pss_one (ps_ret (pe_cmpR op_isN (pv 0) pe_non (nomark _))))
 pss_nil)
 (pss_cons (ps_if (pt_val (pe_callB call_isiT rfl T.n_isinstance (by decide +kernel) (pa_cons (pv 1) (pa_cons (pe_tup (pa_cons (pe_ty "str" T.n_str (by decide +kernel)) (pa_cons (pe_ty "bool" T.n_bool (by decide +kernel)) pa_nil))) pa_nil))))
 (pss_one (ps_ret (pe_and (pe_callB call_isiT rfl T.n_isinstance (by decide +kernel) (pa_cons (pv 0) (pa_cons (pe_tup (pa_cons (pe_ty "str" T.n_str (by decide +kernel)) (pa_cons (pe_ty "bool" T.n_bool (by decide +kernel)) pa_nil))) pa_nil))) (pe_and (pe_cmpR op_eq (pe_callB call_isi rfl T.n_isinstance (by decide +kernel) (pa_cons (pv 0) (pa_cons (pe_ty "bool" T.n_bool (by decide +kernel)) pa_nil))) (pe_callB call_isi rfl T.n_isinstance (by decide +kernel) (pa_cons (pv 1) (pa_cons (pe_ty "bool" T.n_bool (by decide +kernel)) pa_nil))) (nomark _)) (pe_one (pe_cmpR op_eq (pv 0) (pv 1) (nomark _)))))))
 pss_nil)
 (pss_one (ps_ret (pe_and (pe_callB call_isi rfl T.n_isinstance (by decide +kernel) (pa_cons (pv 0) (pa_cons (pe_ty "int" T.n_int (by decide +kernel)) pa_nil))) (pe_and (pe_not (pe_callB call_isi rfl T.n_isinstance (by decide +kernel) (pa_cons (pv 0) (pa_cons (pe_ty "bool" T.n_bool (by decide +kernel)) pa_nil)))) (pe_one (pe_cmpR op_eq (pv 0) (pv 1) (nomark _)))))))))), ?_⟩
      cases d with
      | list ds => exact hd.elim
      | dict ds => exact hd.elim
      | none =>
        cases hx
        cases hy
        refine ⟨_, rfl, _, _, .type "NoneType", .type "tuple", false, rfl, .ty "tuple", .base .non, kit_ty (by decide +kernel), false, rfl, iteF ?_⟩
        refine ⟨_, rfl, rfl, _, rfl, iteT ?_⟩
        exact ⟨_, rfl, rfl, kq _ (Same.refl _)⟩
      | bool b =>
        cases hx
        cases hy
        refine ⟨_, rfl, _, _, .type "bool", .type "tuple", false, rfl, .ty "tuple", .base (.bl b), kit_ty (by decide +kernel), false, rfl, iteF ?_⟩
        refine ⟨_, rfl, rfl, _, rfl, iteF ?_⟩
        refine ⟨_, rfl, by show 2 ≤ sizeLine; decide, fun q hq => ?_⟩
        refine ⟨_, q, _, .type "bool", [.type "str", .type "bool"], true, rfl, upd_same, .cons (.ty "str") (.cons (.ty "bool") .nil), .base (.bl b),
          kitAny_cons (b := false) (r := true) (kit_ty (by decide +kernel)) (fun _ => kitAny_cons (b := true) (r := true) (kit_ty (by decide +kernel)) (fun h => by cases h) (fun _ => rfl)) (fun h => by cases h), true, rfl, iteT ?_⟩
        refine ⟨_, rfl, by show 2 ≤ sizeLine; decide, fun q2 hq2 => ?_⟩
        refine ⟨_, q2, _, .type "bool", [.type "str", .type "bool"], true, rfl, upd_same, .cons (.ty "str") (.cons (.ty "bool") .nil), .base (.bl b),
          kitAny_cons (b := false) (r := true) (kit_ty (by decide +kernel)) (fun _ => kitAny_cons (b := true) (r := true) (kit_ty (by decide +kernel)) (fun h => by cases h) (fun _ => rfl)) (fun h => by cases h), true, rfl, iteT ?_⟩
        refine ⟨_, rfl, _, _, .type "bool", .type "bool", true, rfl, .ty "bool", .base (.bl b), kit_ty (by decide +kernel), ?_⟩
        refine ⟨_, rfl, _, _, .type "bool", .type "bool", true, rfl, .ty "bool", .base (.bl b), kit_ty (by decide +kernel), rfl, _, rfl, ?_⟩
        refine (congrArg (fun b => (if b = true then _ else _)) (decide_eq_true (rfl : V.bl true = V.bl true))).mpr (iteT ?_)
        refine ⟨_, rfl, _, rfl, rfl, ?_⟩
        rw [decide_eq_true rfl]
        exact kq _ (same_upd (same_new hq) (Same.free (same_new hq) hq2))
      | str b =>
        cases hx
        cases hy
        refine ⟨_, rfl, _, _, .type "str", .type "tuple", false, rfl, .ty "tuple", .base (.str b), kit_ty (by decide +kernel), false, rfl, iteF ?_⟩
        refine ⟨_, rfl, rfl, _, rfl, iteF ?_⟩
        refine ⟨_, rfl, by show 2 ≤ sizeLine; decide, fun q hq => ?_⟩
        refine ⟨_, q, _, .type "str", [.type "str", .type "bool"], true, rfl, upd_same, .cons (.ty "str") (.cons (.ty "bool") .nil), .base (.str b),
          kitAny_cons (b := true) (r := true) (kit_ty (by decide +kernel)) (fun h => by cases h) (fun _ => rfl), true, rfl, iteT ?_⟩
        refine ⟨_, rfl, by show 2 ≤ sizeLine; decide, fun q2 hq2 => ?_⟩
        refine ⟨_, q2, _, .type "str", [.type "str", .type "bool"], true, rfl, upd_same, .cons (.ty "str") (.cons (.ty "bool") .nil), .base (.str b),
          kitAny_cons (b := true) (r := true) (kit_ty (by decide +kernel)) (fun h => by cases h) (fun _ => rfl), true, rfl, iteT ?_⟩
        refine ⟨_, rfl, _, _, .type "str", .type "bool", false, rfl, .ty "bool", .base (.str b), kit_ty (by decide +kernel), ?_⟩
        refine ⟨_, rfl, _, _, .type "str", .type "bool", false, rfl, .ty "bool", .base (.str b), kit_ty (by decide +kernel), rfl, _, rfl, ?_⟩
        refine (congrArg (fun b => (if b = true then _ else _)) (decide_eq_true (rfl : V.bl false = V.bl false))).mpr (iteT ?_)
        refine ⟨_, rfl, _, rfl, rfl, ?_⟩
        rw [decide_eq_true rfl]
        exact kq _ (same_upd (same_new hq) (Same.free (same_new hq) hq2))
      | int i =>
        cases hx
        cases hy
        refine ⟨_, rfl, _, _, .type "int", .type "tuple", false, rfl, .ty "tuple", .base (.int _), kit_ty (by decide +kernel), false, rfl, iteF ?_⟩
        refine ⟨_, rfl, rfl, _, rfl, iteF ?_⟩
        refine ⟨_, rfl, by show 2 ≤ sizeLine; decide, fun q hq => ?_⟩
        refine ⟨_, q, _, .type "int", [.type "str", .type "bool"], false, rfl, upd_same, .cons (.ty "str") (.cons (.ty "bool") .nil), .base (.int _),
          kitAny_cons (b := false) (r := false) (kit_ty (by decide +kernel)) (fun _ => kitAny_cons (b := false) (r := false) (kit_ty (by decide +kernel)) (fun _ => kitAny_nil) (fun h => by cases h)) (fun h => by cases h), false, rfl, iteF ?_⟩
        refine ⟨_, rfl, _, _, .type "int", .type "int", true, rfl, .ty "int", .base (.int _), kit_ty (by decide +kernel), true, rfl, iteT ?_⟩
        refine ⟨_, rfl, _, _, .type "int", .type "bool", false, rfl, .ty "bool", .base (.int _), kit_ty (by decide +kernel), false, rfl, true, rfl, iteT ?_⟩
        refine ⟨_, rfl, _, rfl, rfl, ?_⟩
        rw [decide_eq_true rfl]
        exact kq _ (same_new hq)
      | tuple ds =>
        obtain ⟨hl, hds⟩ := hd
        cases hx with | @tup a xs _ ha hxs =>
        cases hy with | @tup b ys _ hb hys =>
        have lx := dpAll_len hxs
        have ly := dpAll_len hys
        refine ⟨_, rfl, _, _, .type "tuple", .type "tuple", true, rfl, .ty "tuple", tyT hb, kit_ty (by decide +kernel), true, rfl, iteT ?_⟩
        refine ⟨_, rfl, _, _, .type "tuple", .type "tuple", true, rfl, .ty "tuple", tyT ha, kit_ty (by decide +kernel), true, rfl, iteF ?_⟩
        refine ⟨_, rfl, a, _, rfl, .inr ha, _, rfl, b, _, rfl, .inr hb, rfl, _, rfl, ?_⟩
        have e1 : (!decide (V.int (xs.length : Int) = V.int (ys.length : Int))) = false := by rw [lx, ly, decide_eq_true rfl]; rfl
        refine (congrArg (fun b => (if b = true then _ else _)) e1).mpr (iteF ?_)
        refine ⟨_, rfl, _, rfl, a, b, _, _, rfl, .inr ⟨ha, hb, fun D hD => ?_⟩⟩
        refine lc_it (RU.walk_zipT (n := ds.length) (by omega)) (fun i H' => Same H H' ∧ H' D = some (.lst ((List.replicate i true).map V.bl))) ⟨same_new hD, upd_same⟩ (fun i H' _ z => ⟨sqT_same z.1 ha, sqT_same z.1 hb⟩) ?_ ?_
        · rintro i x H3 H4 hi ⟨s3, hD3⟩ ⟨t, x1, x2, rfl, ht, rfl, e1, e2⟩
          obtain ⟨d1, g1, p1⟩ := dpAll_get hxs e1
          obtain ⟨d2, g2, p2⟩ := dpAll_get hys e2
          rw [g1] at g2
          obtain rfl := Option.some.inj g2
          have s4 := s3.trans (same_new (o := .tup [x1, x2]) ht)
          refine ⟨t, _, rfl, SqT.of upd_same, rfl, _, _, rfl, _, _, rfl, rfl, rfl, ?_⟩
          dsimp only [tYes]
          rw [if_pos rfl]
          refine ⟨_, rfl, _, rfl, x1, x2, d1, rfl, hds _ (List.mem_of_getElem? g1), dp_same s4 p1, dp_same s4 p2, fun H5 s5 => ⟨_, s5 _ _ (same_new ht _ _ hD3), ?_, same_upd (s4.trans s5) hD, ?_⟩⟩
          · rw [List.length_map, List.length_replicate]
            exact Nat.lt_of_le_of_lt (by omega : i ≤ 100000) (by decide)
          · rw [upd_same, rep_snoc]
        · rintro H3 ⟨s3, hD3⟩
          refine ⟨D, _, rfl, SqL.of hD3, ?_⟩
          rw [rep_true]
          exact kq H3 s3
end
end K37

namespace K37
open PySem PySem.Spec PyProof.Rows L2 RZ HX TR
theorem cut_to {xs : List V} {n : Nat} (h : n ≤ xs.length) : cutV xs none (some (n : Int)) = xs.take n := by
  have e1 : HT.sIx xs.length 0 none = 0 := rfl
  have e2 : HT.sIx xs.length xs.length (some (n : Int)) = n := by rw [HT.sIx_nat]; omega
  unfold cutV
  rw [e1, e2]
  rfl
theorem cut_from {xs : List V} {n : Nat} (h : n ≤ xs.length) : cutV xs (some (n : Int)) none = xs.drop n := by
  have e1 : HT.sIx xs.length 0 (some (n : Int)) = n := by rw [HT.sIx_nat]; omega
  have e2 : HT.sIx xs.length xs.length none = xs.length := rfl
  unfold cutV
  rw [e1, e2, List.take_of_length_le (by rw [List.length_drop]; omega)]
theorem cut_from' {xs : List V} {n : Nat} : cutV xs (some (n : Int)) none = xs.drop n := by
  by_cases h : n ≤ xs.length
  · exact cut_from h
  · have e1 : HT.sIx xs.length 0 (some (n : Int)) = xs.length := by rw [HT.sIx_nat]; omega
    have e2 : HT.sIx xs.length xs.length none = xs.length := rfl
    unfold cutV
    rw [e1, e2, List.drop_of_length_le (by omega : xs.length ≤ n), List.drop_length, List.take_nil]
end K37

namespace K37
open PySem PySem.Spec PyProof.Rows L2 RZ HX TR RP AL
section
variable {P : Program} {w : World} {K : PySem.W.Frag} {mg : Str → Option Value} {base : Heap}
theorem b_Latches_take (T : TX K mg) : ∃ ds, Vals [V.bl false] ds ∧ Binds K T.fd_Latches_take ["self", "hand", "page", "alone"] ds :=
  T.F_Latches_take.binds0 3 (by simp) rfl fun D doc pm an cdv ct us ks h1 h2 => match us, ks, h1, h2 with
    | [u, v, x], [k], _, _ => ⟨_, _, _, _, _, _, rfl, rfl, rfl⟩
theorem kb_Latches_take (T : TX K mg) : KBn K T.fd_Latches_take ["self", "hand", "page", "alone"] 3 ["alone"] (fun us ws => us ++ ws) (fun vs zs => vs ++ zs) := by
  obtain ⟨mv, h⟩ := T.F_Latches_take.kbinds0 (ps := ["self", "hand", "page", "alone"]) 3 ["alone"] [] (fun us _ ws => us ++ ws) (by simp) (fun q hq => by cases hq) (fun h1 _ h3 => h1.append h3) fun D doc pm an cdv ct us mv ws h1 h2 h3 => match us, mv, ws, h1, h2, h3 with
    | [u, v, x], [], [k], _, _, _ => rfl
  exact h
end
/-! ### the law's own table -/
structure StAt (H : Hp) (st : Addr) (G : List Addr) (A B : Int → List HB) (PP : List Int) (hd ln : Addr) (es fs : List (Int × Addr)) : Prop where
  hst : H st = some (.dK [(.inr "held", .ref hd), (.inr "line", .ref ln)])
  hh : H hd = some (.dK (es.map (ent V.ref)))
  hl : H ln = some (.dK (fs.map (ent V.ref)))
  nd : (es.map (·.1)).Nodup
  nl : (fs.map (·.1)).Nodup
  ee : ∀ q ∈ es, q.2 ∈ G ∧ QuAt H q.2 (A q.1)
  en : ∀ p, p ∉ es.map (·.1) → A p = []
  fe : ∀ q ∈ fs, q.2 ∈ G ∧ QuAt H q.2 (B q.1)
  fn : ∀ p, p ∉ fs.map (·.1) → B p = []
  ep : ∀ q ∈ es, q.1 ∈ PP
  fp : ∀ q ∈ fs, q.1 ∈ PP
  gs : st ∈ G
  gh : hd ∈ G
  gl : ln ∈ G
  sh : st ≠ hd
  sl : st ≠ ln
  hn : hd ≠ ln
  reg : Reg H G
def St (H : Hp) (st : Addr) (G : List Addr) (A B : Int → List HB) (PP : List Int) : Prop := ∃ hd ln es fs, StAt H st G A B PP hd ln es fs
theorem QuAt.keep {H H' : Hp} (k : Keep H H') {l : Addr} {qs : List HB} (e : ∀ o, H l = some o → H' l = some o) (h : QuAt H l qs) : QuAt H' l qs := by
  obtain ⟨xs, h1, h2⟩ := h
  exact ⟨xs, e _ h1, paired_imp (fun _ _ r => HbAt.keep k r) h2⟩
theorem QuAt.same {H H' : Hp} (s : Same H H') {l : Addr} {qs : List HB} (h : QuAt H l qs) : QuAt H' l qs := h.keep (Keep.of s) fun o e => s _ o e
theorem reg_out {H H' : Hp} {F G : List Addr} (r : Reg H G) (o : Out F H H') (d : ∀ y ∈ G, y ∉ F) : Reg H' G := fun y hy => by
  obtain ⟨u, h1, h2⟩ := r y hy
  exact ⟨u, o _ _ (d y hy) h1, h2⟩
section
variable {H H' : Hp} {st : Addr} {G F : List Addr} {A B : Int → List HB} {PP : List Int} {hd ln : Addr} {es fs : List (Int × Addr)}
theorem StAt.out (x : StAt H st G A B PP hd ln es fs) (o : Out F H H') (k : Keep H H') (d : ∀ y ∈ G, y ∉ F) : StAt H' st G A B PP hd ln es fs :=
  { x with hst := o _ _ (d _ x.gs) x.hst, hh := o _ _ (d _ x.gh) x.hh, hl := o _ _ (d _ x.gl) x.hl, ee := fun q hq => ⟨(x.ee q hq).1, (x.ee q hq).2.keep k fun u e => o _ u (d _ (x.ee q hq).1) e⟩, fe := fun q hq => ⟨(x.fe q hq).1, (x.fe q hq).2.keep k fun u e => o _ u (d _ (x.fe q hq).1) e⟩, reg := reg_out x.reg o d }
theorem StAt.same (x : StAt H st G A B PP hd ln es fs) (s : Same H H') : StAt H' st G A B PP hd ln es fs := x.out (F := []) (Out.of s) (Keep.of s) fun _ _ z => nomatch z
theorem StAt.held (x : StAt H st G A B PP hd ln es fs) : DGet H st (.str "held") (some (.ref hd)) := DGet.k (k := .inr "held") x.hst
theorem StAt.line (x : StAt H st G A B PP hd ln es fs) : DGet H st (.str "line") (some (.ref ln)) := DGet.k (k := .inr "line") x.hst
theorem StAt.el (x : StAt H st G A B PP hd ln es fs) (h : PP.length ≤ 100) : es.length ≤ 100 := by
  have z := sub_len x.nd (ys := PP) fun p hp => by
    obtain ⟨q, hq, rfl⟩ := List.mem_map.mp hp
    exact x.ep q hq
  rw [List.length_map] at z
  omega
theorem StAt.fl (x : StAt H st G A B PP hd ln es fs) (h : PP.length ≤ 100) : fs.length ≤ 100 := by
  have z := sub_len x.nl (ys := PP) fun p hp => by
    obtain ⟨q, hq, rfl⟩ := List.mem_map.mp hp
    exact x.fp q hq
  rw [List.length_map] at z
  omega
/-- state['held'].get(page, []): the new list at e -/
theorem StAt.get_held (x : StAt H st G A B PP hd ln es fs) {e : Addr} (he : H e = some (.lst [])) (p : Int) : ∃ l, (valV (es.map (ent V.ref)) (.inl p)).getD (.ref e) = .ref l ∧ QuAt H l (A p) ∧ (l = e ∨ l ∈ G) := by
  rw [val_ent]
  cases c : alk es p with
  | none =>
    refine ⟨e, rfl, ?_, .inl rfl⟩
    rw [x.en p (alk_none.mp c)]
    exact ⟨[], he, .nil⟩
  | some l => exact ⟨l, rfl, (x.ee _ (alk_mem c)).2, .inr (x.ee _ (alk_mem c)).1⟩
theorem StAt.get_line (x : StAt H st G A B PP hd ln es fs) {e : Addr} (he : H e = some (.lst [])) (p : Int) : ∃ l, (valV (fs.map (ent V.ref)) (.inl p)).getD (.ref e) = .ref l ∧ QuAt H l (B p) ∧ (l = e ∨ l ∈ G) := by
  rw [val_ent]
  cases c : alk fs p with
  | none =>
    refine ⟨e, rfl, ?_, .inl rfl⟩
    rw [x.fn p (alk_none.mp c)]
    exact ⟨[], he, .nil⟩
  | some l => exact ⟨l, rfl, (x.fe _ (alk_mem c)).2, .inr (x.fe _ (alk_mem c)).1⟩
theorem reg_upd {p : Addr} {o : HO} (r : Reg H G) (h : tpb o = false) : Reg (upd H p o) G := fun y hy => by
  by_cases c : y = p
  · exact ⟨o, by rw [c]; exact upd_same, h⟩
  · obtain ⟨u, h1, h2⟩ := r y hy
    exact ⟨u, by rw [upd_ne c]; exact h1, h2⟩
theorem qu_ne {l d : Addr} {qs : List HB} {kvs : List (Key × V)} (h : QuAt H l qs) (e : H d = some (.dK kvs)) : l ≠ d := fun z => by
  obtain ⟨xs, h1, _⟩ := h
  rw [z, e] at h1
  cases h1
theorem StAt.put_held (x : StAt H st G A B PP hd ln es fs) {page : Int} {l : Addr} {qs : List HB} (hq : QuAt H l qs) (hp : page ∈ PP) : StAt (upd H hd (.dK ((aput es page l).map (ent V.ref)))) st (l :: G) (fup A page qs) B PP hd ln (aput es page l) fs := by
  have k := keep_dk (fs := (aput es page l).map (ent V.ref)) x.hh
  have up : ∀ {l' : Addr} {qs' : List HB}, QuAt H l' qs' → QuAt (upd H hd (.dK ((aput es page l).map (ent V.ref)))) l' qs' := fun h => h.keep k fun u e => by rw [upd_ne (qu_ne h x.hh)]; exact e
  refine ⟨by rw [upd_ne x.sh]; exact x.hst, upd_same, by rw [upd_ne x.hn.symm]; exact x.hl, put_nodup x.nd, x.nl, fun q hq' => ?_, fun p hp' => ?_, fun q hq' => ⟨List.mem_cons_of_mem _ (x.fe q hq').1, up (x.fe q hq').2⟩, x.fn, fun q hq' => ?_, x.fp, List.mem_cons_of_mem _ x.gs, List.mem_cons_of_mem _ x.gh, List.mem_cons_of_mem _ x.gl, x.sh, x.sl, x.hn, reg_upd (fun y hy => ?_) rfl⟩
  · rcases put_mem hq' with e | ⟨h, ne⟩
    · rw [e, fup_eq]
      exact ⟨List.mem_cons_self .., up hq⟩
    · rw [fup_ne ne]
      exact ⟨List.mem_cons_of_mem _ (x.ee q h).1, up (x.ee q h).2⟩
  · rw [put_keys] at hp'
    by_cases c : page ∈ es.map (·.1)
    · rw [if_pos c] at hp'
      rw [fup_ne (fun z => hp' (by rw [z]; exact c))]
      exact x.en p hp'
    · rw [if_neg c, List.mem_append, not_or] at hp'
      rw [fup_ne (fun z => hp'.2 (by rw [z]; exact List.mem_cons_self ..))]
      exact x.en p hp'.1
  · rcases put_mem hq' with e | ⟨h, ne⟩
    · rw [e]; exact hp
    · exact x.ep q h
  · rcases List.mem_cons.mp hy with e | h
    · obtain ⟨xs, h1, _⟩ := hq
      exact ⟨_, by rw [e]; exact h1, rfl⟩
    · exact x.reg y h
theorem StAt.put_line (x : StAt H st G A B PP hd ln es fs) {page : Int} {l : Addr} {qs : List HB} (hq : QuAt H l qs) (hp : page ∈ PP) : StAt (upd H ln (.dK ((aput fs page l).map (ent V.ref)))) st (l :: G) A (fup B page qs) PP hd ln es (aput fs page l) := by
  have k := keep_dk (fs := (aput fs page l).map (ent V.ref)) x.hl
  have up : ∀ {l' : Addr} {qs' : List HB}, QuAt H l' qs' → QuAt (upd H ln (.dK ((aput fs page l).map (ent V.ref)))) l' qs' := fun h => h.keep k fun u e => by rw [upd_ne (qu_ne h x.hl)]; exact e
  refine ⟨by rw [upd_ne x.sl]; exact x.hst, by rw [upd_ne x.hn]; exact x.hh, upd_same, x.nd, put_nodup x.nl, fun q hq' => ⟨List.mem_cons_of_mem _ (x.ee q hq').1, up (x.ee q hq').2⟩, x.en, fun q hq' => ?_, fun p hp' => ?_, x.ep, fun q hq' => ?_, List.mem_cons_of_mem _ x.gs, List.mem_cons_of_mem _ x.gh, List.mem_cons_of_mem _ x.gl, x.sh, x.sl, x.hn, reg_upd (fun y hy => ?_) rfl⟩
  · rcases put_mem hq' with e | ⟨h, ne⟩
    · rw [e, fup_eq]
      exact ⟨List.mem_cons_self .., up hq⟩
    · rw [fup_ne ne]
      exact ⟨List.mem_cons_of_mem _ (x.fe q h).1, up (x.fe q h).2⟩
  · rw [put_keys] at hp'
    by_cases c : page ∈ fs.map (·.1)
    · rw [if_pos c] at hp'
      rw [fup_ne (fun z => hp' (by rw [z]; exact c))]
      exact x.fn p hp'
    · rw [if_neg c, List.mem_append, not_or] at hp'
      rw [fup_ne (fun z => hp'.2 (by rw [z]; exact List.mem_cons_self ..))]
      exact x.fn p hp'.1
  · rcases put_mem hq' with e | ⟨h, ne⟩
    · rw [e]; exact hp
    · exact x.fp q h
  · rcases List.mem_cons.mp hy with e | h
    · obtain ⟨xs, h1, _⟩ := hq
      exact ⟨_, by rw [e]; exact h1, rfl⟩
    · exact x.reg y h
end
end K37

namespace K37
open PySem PySem.Spec PyProof.Rows L2 RZ HX TR RP AL
theorem map_at {α β : Type} {f : α → β} {xs : List α} {i : Nat} {y : β} (h : (xs.map f)[i]? = some y) : ∃ x, xs[i]? = some x ∧ y = f x := by
  rw [List.getElem?_map] at h
  cases c : xs[i]? with
  | none => rw [c] at h; cases h
  | some x => rw [c] at h; exact ⟨x, rfl, (Option.some.inj h).symm⟩
def rowD (q : HB) : PyData := .tuple [.int q.1, .bool q.2]
theorem HbAt.dp {K : PySem.W.Frag} {H : Hp} {x : V} {q : HB} (h : HbAt H x q) : Dp K H x (rowD q) := by
  obtain ⟨t, rfl, ht⟩ := h
  exact .tup (.inl (.inl ht)) (.cons (.int _) (.cons (.bl _) .nil))
theorem hbs_dp {K : PySem.W.Frag} {H : Hp} : ∀ {xs : List V} {qs : List HB}, Paired (HbAt H) xs qs → DpAll K H xs (qs.map rowD)
  | _, _, .nil => .nil
  | _, _, .cons r rs => .cons r.dp (hbs_dp rs)
theorem shaped_hbs (qs : List HB) : SeqAt.shaped (.list (qs.map rowD)) = true := by
  have lay : ∀ qs : List HB, PyData.canLayAll0 (qs.map rowD) = true := fun qs => by
    induction qs with
    | nil => rfl
    | cons q qs ih =>
      show (PyData.canLay0 (rowD q) && PyData.canLayAll0 (qs.map rowD)) = true
      rw [ih, Bool.and_true]
      rfl
  have dep : ∀ qs : List HB, PyData.depthAll (qs.map rowD) ≤ 2 := fun qs => by
    induction qs with
    | nil => simp [PyData.depthAll]
    | cons q qs ih =>
      have e : PyData.depth (rowD q) ≤ 2 := by unfold rowD; simp [PyData.depth, PyData.depthAll]
      simp only [List.map_cons, PyData.depthAll]
      omega
  have d := dep qs
  unfold SeqAt.shaped
  simp only [PyData.canLay0, lay qs, PyData.depth, Bool.true_and]
  exact decide_eq_true (by omega)
theorem eqv_nil0 {ds : List PyData} : PyData.eqv (.list ds) (.list []) = ds.isEmpty := by
  cases ds <;> simp [PyData.eqv, PyData.eqvAll]
theorem map_empty {α β : Type} {f : α → β} {xs : List α} : (xs.map f).isEmpty = xs.isEmpty := by cases xs <;> rfl
section
variable {P : Program} {w : World} {K : PySem.W.Frag} {mg : Str → Option Value} {base : Heap}
def sp_law_none : Sp := fun vs H Q _ => vs = [] ∧ ∀ (H' : Hp) (st : Addr) (G : List Addr), Same H H' → (∀ y ∈ G, H y = none) → (∀ PP, St H' st G (fun _ => []) (fun _ => []) PP) → Q (.ref st) H'
theorem ok_law_none (T : TX K mg) : FnOk P w K mg base CX0 1 (He.ga K "_law_none") T.fd_law_none [] sp_law_none := by
  refine T.F_law_none.ok sc_law_none (fun vs H Q E h => ?_) (fun cdv A outer st H vs Q E hr h => ?_)
  · obtain ⟨rfl, _⟩ := h
    rfl
  · obtain ⟨rfl, kq⟩ := h
    refine ⟨_, PSs.nox (pss_one (ps_ret (pe_disp (pps_cons pe_str pe_dnewK (pps_cons pe_str pe_dnewK pps_nil)) (by rfl) (by rfl) (fun z => by cases z) (by decide)))), ?_⟩
    refine fun a ha => fun hd hhd ln hln => ?_
    have ha1 : upd H a (.dK []) a = some (.dK []) := upd_same
    have nah : hd ≠ a := fun e => by rw [e, ha1] at hhd; cases hhd
    have s1 := same_new (o := .dK []) ha
    have s2 := same_new (o := .dK []) hhd
    have s3 := same_new (o := .dK []) hln
    have hd2 : upd (upd H a (.dK [])) hd (.dK []) hd = some (.dK []) := upd_same
    have nlh : ln ≠ hd := fun e => by rw [e, hd2] at hln; cases hln
    have ha2 := s2 _ _ ha1
    have nla : ln ≠ a := fun e => by rw [e, ha2] at hln; cases hln
    have hdn : H hd = none := by
      cases z : H hd with
      | none => rfl
      | some o => rw [s1 _ _ z] at hhd; cases hhd
    have lnn : H ln = none := by
      cases z : H ln with
      | none => rfl
      | some o => rw [s2 _ _ (s1 _ _ z)] at hln; cases hln
    refine ⟨s3 _ _ ha2, [(.inr "held", .ref hd), (.inr "line", .ref ln)], rfl, by simp, ?_⟩
    have b0 : But a H (upd (upd (upd (upd H a (.dK [])) hd (.dK [])) ln (.dK [])) a (.dK (mergeK [] [(.inr "held", .ref hd), (.inr "line", .ref ln)]))) := (But.of ((s1.trans s2).trans s3)).upd
    have hA : upd (upd (upd (upd H a (.dK [])) hd (.dK [])) ln (.dK [])) a (.dK (mergeK [] [(.inr "held", .ref hd), (.inr "line", .ref ln)])) a = some (.dK [(.inr "held", .ref hd), (.inr "line", .ref ln)]) := upd_same
    have hD : upd (upd (upd (upd H a (.dK [])) hd (.dK [])) ln (.dK [])) a (.dK (mergeK [] [(.inr "held", .ref hd), (.inr "line", .ref ln)])) hd = some (.dK []) := by rw [upd_ne nah]; exact s3 _ _ hd2
    have hL : upd (upd (upd (upd H a (.dK [])) hd (.dK [])) ln (.dK [])) a (.dK (mergeK [] [(.inr "held", .ref hd), (.inr "line", .ref ln)])) ln = some (.dK []) := by rw [upd_ne nla]; exact upd_same
    generalize upd (upd (upd (upd H a (.dK [])) hd (.dK [])) ln (.dK [])) a (.dK (mergeK [] [(.inr "held", .ref hd), (.inr "line", .ref ln)])) = H4 at b0 hA hD hL
    refine kq H4 a [a, hd, ln] (fun b u e => b0 b u (fun z => by rw [z, ha] at e; cases e) e) (fun y hy => ?_) fun PP => ⟨hd, ln, [], [], hA, hD, hL, List.nodup_nil, List.nodup_nil, (fun q hq => nomatch hq), (fun _ _ => rfl), (fun q hq => nomatch hq), (fun _ _ => rfl), (fun q hq => nomatch hq), (fun q hq => nomatch hq), by simp, by simp, by simp, nah.symm, nla.symm, nlh.symm, fun y hy => ?_⟩
    · simp only [List.mem_cons, List.not_mem_nil, or_false] at hy
      rcases hy with e | e | e <;> rw [e] <;> assumption
    · simp only [List.mem_cons, List.not_mem_nil, or_false] at hy
      rcases hy with e | e | e <;> rw [e] <;> exact ⟨_, by assumption, rfl⟩
def sp_law_fits : Sp := fun vs H Q _ => ∃ (st : Addr) (G : List Addr) (A B : Int → List HB) (PP : List Int) (page : Int) (lone : Bool), vs = [.ref st, .int page, .bl lone] ∧ St H st G A B PP ∧ (∀ p, (A p).length ≤ 100) ∧ ∀ H', Same H H' → Q (.bl (fits (A page) lone)) H'
theorem ok_law_fits (T : TX K mg) : FnOk P w K mg base CX0 1 (He.ga K "_law_fits") T.fd_law_fits ["state", "page", "lone"] sp_law_fits := by
  refine T.F_law_fits.ok sc_law_fits (fun vs H Q E h => ?_) (fun cdv A outer st H vs Q E hr h => ?_)
  · obtain ⟨s, G, A, B, PP, page, lone, rfl, _⟩ := h
    rfl
  · obtain ⟨sa, G, LA, LB, PP, page, lone, rfl, ⟨hd, ln, es, fs, x⟩, lim, kq⟩ := h
    refine ⟨_, PSs.nox (pss_cons (ps_set (i := 3) sc_law_fits.nd rfl (Or.inl rfl) (pe_dget2 (hu_of hr) (pe_dget (hu_of hr) (pv 0) pe_str (fun _ _ => rfl)) (pv 1) (pe_lst pa_nil) ⟨rfl, rfl, rfl, rfl⟩))
 (pss_one (ps_ret (pe_or (pe_cmpR (op_eqD hr.units) (pv 3) (pe_lst pa_nil) (nomark _)) (pe_one (pe_and (pe_not (pv 2)) (pe_one (pe_cmpR (op_eqD hr.units) (pe_lc (own := [("hand", 4), ("sole", 5)]) (g := gTup K 2 (gCons (gName 4) (gCons (gName 5) gNil))) (tt := _) rfl sc_law_fits.nd (pi_list (pv 3)) (blkOk_by (own := [("hand", 4), ("sole", 5)]) (N := ["state", "page", "lone", "some", "hand", "sole"]) (sc := defScope s_law_fits) (by decide +kernel)) (fun _ _ _ _ _ => (pg_tup rfl (pgs_cons (pg_name (i := 4) sc_law_fits.nd rfl (Or.inl rfl)) (pgs_cons (pg_name (i := 5) sc_law_fits.nd rfl (Or.inl rfl)) pgs_nil)))) (fun _ _ _ _ _ => pts_one (pt_val (pv 5))) (fun _ _ _ _ _ => pe_int)) (pe_lst pa_nil) (nomark _))))))))), ?_⟩
    refine ⟨_, rfl, sa, _, rfl, x.held, hd, rfl, .inl ⟨_, .inl x.hh⟩, _, rfl, Nat.zero_le _, fun e he => ?_⟩
    have s1 := same_new (o := .lst []) he
    have he1 : upd H e (.lst []) e = some (.lst []) := upd_same
    have x1 := x.same s1
    generalize upd H e (.lst []) = H1 at s1 he1 x1
    refine ⟨_, DGet.k (k := .inl page) x1.hh, ?_⟩
    obtain ⟨l, el, ⟨xs, hl, hx⟩, _⟩ := x1.get_held he1 page
    rw [el]
    have lx : xs.length = (LA page).length := Paired.length hx
    have lim1 := lim page
    refine ⟨_, rfl, Nat.zero_le _, fun q hq => ?_⟩
    have s2 := same_new (o := .lst []) hq
    have hq2 : upd H1 q (.lst []) q = some (.lst []) := upd_same
    generalize upd H1 q (.lst []) = H2 at s2 hq2
    have hl2 := s2 _ _ hl
    have hx2 : Paired (HbAt H2) xs (LA page) := paired_imp (fun _ _ r => HbAt.keep (Keep.of s2) r) hx
    refine ⟨.list ((LA page).map rowD), .list [], .lst (SqL.of hl2) (hbs_dp hx2), .lst (SqL.of hq2) .nil, shaped_hbs _, by decide, ?_⟩
    rw [eqv_nil0, map_empty]
    refine ⟨_, rfl, ?_⟩
    cases he' : (LA page).isEmpty with
    | true =>
      have z := kq _ (s1.trans s2)
      have e : fits (LA page) lone = true := by
        unfold fits
        rw [he']
        rfl
      rw [e] at z
      exact iteT z
    | false =>
      have e : fits (LA page) lone = !(lone || (LA page).any (·.2)) := by
        unfold fits
        rw [he']
        rfl
      rw [e] at kq
      refine iteF ⟨_, rfl, _, rfl, ?_⟩
      refine ⟨_, rfl, ?_⟩
      cases lone with
      | true => exact iteF (kq _ (s1.trans s2))
      | false =>
        refine iteT ?_
        refine ⟨_, rfl, l, rfl, ⟨_, SqL.of hl2⟩, fun D hD => ?_⟩
        have s3 := same_new (o := .lst []) hD
        refine RU.out_it (walk_list (xs := xs)) (fun i H' => Same H2 H' ∧ H' D = some (.lst ((((LA page).take i).filter (·.2)).map fun _ => V.int 1))) ⟨s3, upd_same⟩ (fun i H' _ z => SqL.of (z.1 _ _ hl2)) ?_ ?_
        · rintro i y H3 H4 hi ⟨s4, hD4⟩ ⟨rfl, hy⟩
          obtain ⟨r, hr', t, rfl, ht⟩ := pget1 hx2 hy
          have et : ((LA page).take (i + 1)).filter (·.2) = ((LA page).take i).filter (·.2) ++ [r].filter (·.2) := by
            rw [List.take_add_one, hr', List.filter_append]
            rfl
          have small : (((LA page).take i).filter (·.2)).length ≤ 100 := by
            have h1 := List.length_filter_le (fun q : HB => q.2) ((LA page).take i)
            rw [List.length_take] at h1
            omega
          refine ⟨t, _, rfl, .inl (.inl (s4 _ _ ht)), rfl, ?_⟩
          refine ⟨_, _, rfl, _, _, rfl, rfl, ?_⟩
          refine ⟨rfl, _, rfl, _, rfl, ?_⟩
          cases hb : r.2 with
          | true =>
            refine iteT ⟨_, hD4, by rw [List.length_map]; unfold sizeLine; omega, same_upd s4 hD, ?_⟩
            rw [upd_same, et, List.filter_cons, if_pos hb, List.map_append]
            rfl
          | false =>
            refine iteF ⟨s4, ?_⟩
            rw [hD4, et, List.filter_cons, if_neg (by rw [hb]; exact Bool.false_ne_true)]
            simp
        · rintro H3 ⟨s4, hD4⟩
          refine ⟨Nat.zero_le _, fun q3 hq3 => ?_⟩
          have s5 := same_new (o := .lst []) hq3
          rw [show xs.length = (LA page).length from lx, List.take_length] at hD4
          refine ⟨.list (((LA page).filter (·.2)).map fun _ => PyData.int 1), .list [], .lst (SqL.of (s5 _ _ hD4)) ?_, .lst (SqL.of upd_same) .nil, ?_, by decide, ?_⟩
          · have e1 : (((LA page).filter (·.2)).map fun _ => V.int 1) = ((((LA page).filter (·.2)).map fun _ => (1 : Int))).map V.int := by rw [List.map_map]; rfl
            have e2 : (((LA page).filter (·.2)).map fun _ => PyData.int 1) = ((((LA page).filter (·.2)).map fun _ => (1 : Int))).map PyData.int := by rw [List.map_map]; rfl
            rw [e1, e2]
            exact dpa_ints _
          · have e2 : (((LA page).filter (·.2)).map fun _ => PyData.int 1) = ((((LA page).filter (·.2)).map fun _ => (1 : Int))).map PyData.int := by rw [List.map_map]; rfl
            rw [e2]
            exact shaped_ints _
          · rw [eqv_nil0, map_empty]
            have z := kq _ (((s1.trans s2).trans s4).trans s5)
            have e : ((LA page).filter (·.2)).isEmpty = !(false || (LA page).any (·.2)) := by
              rw [Bool.false_or]
              generalize LA page = q
              induction q with
              | nil => rfl
              | cons r q ih =>
                rw [List.filter_cons, List.any_cons]
                cases hb : r.2 with
                | true => rfl
                | false => exact ih
            rw [e]
            exact z
end
end K37

namespace K37
open PySem PySem.Spec PyProof.Rows L2 RZ HX TR RP AL
theorem flat_ints (ks : List Int) : (ks.map V.int).all flatV = true := List.all_eq_true.mpr fun x hx => by
  obtain ⟨k, _, rfl⟩ := List.mem_map.mp hx
  rfl
theorem inV_ints {i : Int} {ks : List Int} : inV (.int i) (ks.map V.int) = decide (i ∈ ks) := by
  unfold inV
  rw [List.any_map, Bool.eq_iff_iff, List.any_eq_true, decide_eq_true_eq]
  constructor
  · rintro ⟨k, hk, e⟩
    have e' : k = i := by
      have z : eqV (.int k) (.int i) = true := e
      simpa [eqV] using z
    exact e' ▸ hk
  · intro h
    exact ⟨i, h, by show eqV (.int i) (.int i) = true; simp [eqV]⟩
section
variable {P : Program} {w : World} {K : PySem.W.Frag} {mg : Str → Option Value} {base : Heap}
def sp_law_grips : Sp := fun vs H Q _ => ∃ (st : Addr) (G : List Addr) (A B : Int → List HB) (PP : List Int) (hand page : Int), vs = [.ref st, .int hand, .int page] ∧ St H st G A B PP ∧ (∀ p, (A p).length ≤ 100) ∧ ∀ H', Same H H' → Q (.bl (decide (hand ∈ (A page).map (·.1)))) H'
theorem ok_law_grips (T : TX K mg) : FnOk P w K mg base CX0 1 (He.ga K "_law_grips") T.fd_law_grips ["state", "hand", "page"] sp_law_grips := by
  refine T.F_law_grips.ok sc_law_grips (fun vs H Q E h => ?_) (fun cdv A outer st H vs Q E hr h => ?_)
  · obtain ⟨s, G, A, B, PP, page, lone, rfl, _⟩ := h
    rfl
  · obtain ⟨sa, G, LA, LB, PP, hand, page, rfl, ⟨hd, ln, es, fs, x⟩, lim, kq⟩ := h
    refine ⟨_, PSs.nox (pss_one (ps_ret (pe_cmpR op_in_seq (pv 1) (pe_lc (own := [("one", 3), ("lone", 4)]) (g := gTup K 2 (gCons (gName 3) (gCons (gName 4) gNil))) (tt := tYes) rfl sc_law_grips.nd (pi_list (pe_dget2 (hu_of hr) (pe_dget (hu_of hr) (pv 0) pe_str (fun _ _ => rfl)) (pv 2) (pe_lst pa_nil) ⟨rfl, rfl, rfl, rfl⟩)) (blkOk_by (own := [("one", 3), ("lone", 4)]) (N := ["state", "hand", "page", "one", "lone"]) (sc := defScope s_law_grips) (by decide +kernel)) (fun _ _ _ _ _ => (pg_tup rfl (pgs_cons (pg_name (i := 3) sc_law_grips.nd rfl (Or.inl rfl)) (pgs_cons (pg_name (i := 4) sc_law_grips.nd rfl (Or.inl rfl)) pgs_nil)))) (fun _ _ _ _ _ => pts_nil) (fun _ _ _ _ _ => (pv 3))) rfl))), ?_⟩
    refine ⟨_, rfl, ?_⟩
    refine ⟨_, rfl, sa, _, rfl, x.held, hd, rfl, .inl ⟨_, .inl x.hh⟩, _, rfl, Nat.zero_le _, fun e he => ?_⟩
    have s1 := same_new (o := .lst []) he
    have he1 : upd H e (.lst []) e = some (.lst []) := upd_same
    have x1 := x.same s1
    generalize upd H e (.lst []) = H1 at s1 he1 x1
    refine ⟨_, DGet.k (k := .inl page) x1.hh, ?_⟩
    obtain ⟨l, el, ⟨xs, hl, hx⟩, _⟩ := x1.get_held he1 page
    rw [el]
    have lx : xs.length = (LA page).length := Paired.length hx
    have lim1 := lim page
    refine ⟨l, rfl, ⟨_, SqL.of hl⟩, fun D hD => ?_⟩
    have s3 := same_new (o := .lst []) hD
    refine RU.out_it (walk_list (xs := xs)) (fun i H' => Same H1 H' ∧ H' D = some (.lst ((((LA page).take i).map (·.1)).map V.int))) ⟨s3, upd_same⟩ (fun i H' _ z => SqL.of (z.1 _ _ hl)) ?_ ?_
    · rintro i y H3 H4 hi ⟨s4, hD4⟩ ⟨rfl, hy⟩
      obtain ⟨r, hr', t, rfl, ht⟩ := pget1 hx hy
      have et : ((LA page).take (i + 1)).map (·.1) = ((LA page).take i).map (·.1) ++ [r.1] := by
        rw [List.take_add_one, hr', List.map_append]
        rfl
      refine ⟨t, _, rfl, .inl (.inl (s4 _ _ ht)), rfl, ?_⟩
      refine ⟨_, _, rfl, _, _, rfl, rfl, ?_⟩
      refine ⟨rfl, ?_⟩
      dsimp only [tYes]
      refine iteT ⟨_, rfl, _, hD4, by rw [List.length_map, List.length_map, List.length_take]; unfold sizeLine; omega, same_upd s4 hD, ?_⟩
      rw [upd_same, et, List.map_append]
      rfl
    · rintro H3 ⟨s4, hD4⟩
      rw [show xs.length = (LA page).length from lx, List.take_length] at hD4
      refine ⟨D, _, rfl, .inl (SqL.of hD4), rfl, flat_ints _, ?_⟩
      rw [show (if false = true then !inV (V.int hand) (((LA page).map (·.1)).map V.int) else inV (V.int hand) (((LA page).map (·.1)).map V.int)) = decide (hand ∈ (LA page).map (·.1)) from inV_ints]
      exact kq _ (s1.trans s4)
def sp_law_awaits : Sp := fun vs H Q _ => ∃ (st : Addr) (G : List Addr) (A B : Int → List HB) (PP : List Int) (hand : Int) (W : Option Int), vs = [.ref st, .int hand] ∧ St H st G A B PP ∧ PP.length ≤ 100 ∧ (∀ p, (B p).length ≤ 100) ∧ (∀ p, W = some p ↔ hand ∈ (B p).map (·.1)) ∧ ∀ H', Same H H' → Q ((W.map V.int).getD .non) H'
theorem ok_law_awaits (T : TX K mg) : FnOk P w K mg base CX0 1 (He.ga K "_law_awaits") T.fd_law_awaits ["state", "hand"] sp_law_awaits := by
  refine T.F_law_awaits.ok sc_law_awaits (fun vs H Q E h => ?_) (fun cdv A outer st H vs Q E hr h => ?_)
  · obtain ⟨s, G, A, B, PP, page, lone, rfl, _⟩ := h
    rfl
  · obtain ⟨sa, G, LA, LB, PP, hand, W, rfl, ⟨hd, ln, es, fs, x⟩, pl, lim, hw, kq⟩ := h
    refine ⟨_, PSs.nox (pss_cons (ps_for PassesOwn.never rfl (pi_list (pe_callB (HS.cr_sortedDV rfl) rfl T.n_sorted (by decide +kernel) (pa_cons (pe_dget (hu_of hr) (pv 0) pe_str (fun _ _ => rfl)) pa_nil))) (pg_name (i := 2) sc_law_awaits.nd rfl (Or.inl rfl))
 (pss_one (ps_if (pt_cmpR op_in_seq (pv 1) (pe_lc (own := [("one", 3), ("lone", 4)]) (g := gTup K 2 (gCons (gName 3) (gCons (gName 4) gNil))) (tt := tYes) rfl sc_law_awaits.nd (pi_list (pe_dget (hu_of hr) (pe_dget (hu_of hr) (pv 0) pe_str (fun _ _ => rfl)) (pv 2) (fun _ _ => rfl))) (blkOk_by (own := [("one", 3), ("lone", 4)]) (N := ["state", "hand", "page", "one", "lone"]) (sc := defScope s_law_awaits) (by decide +kernel)) (fun _ _ _ _ _ => (pg_tup rfl (pgs_cons (pg_name (i := 3) sc_law_awaits.nd rfl (Or.inl rfl)) (pgs_cons (pg_name (i := 4) sc_law_awaits.nd rfl (Or.inl rfl)) pgs_nil)))) (fun _ _ _ _ _ => pts_nil) (fun _ _ _ _ _ => (pv 3))) rfl)
 (pss_one (ps_ret (pv 2)))
 pss_nil)))
 (pss_one (ps_ret pe_non))), ?_⟩
    refine ⟨_, rfl, sa, _, rfl, x.line, ln, fs.map (fun q => (q.1, V.ref q.2)), rfl, by rw [List.map_map]; exact x.hl, fun H1 l zs s1 _ pz _ hl => ?_⟩
    rw [List.map_map] at pz
    have x1 := x.same s1
    have inz : ∀ p, p ∈ zs ↔ p ∈ fs.map (·.1) := fun p => pz.mem_iff
    refine ⟨l, rfl, ⟨_, SqL.of hl⟩, ?_⟩
    refine for_it (walk_list (xs := zs.map V.int)) (fun i σ H' => ∃ v2 v3 v4, σ = [some (.ref sa), some (.int hand), v2, v3, v4] ∧ Same H1 H' ∧ ∀ p ∈ zs.take i, hand ∉ (LB p).map (·.1)) ⟨_, _, _, rfl, Same.refl H1, fun p hp => by cases hp⟩ (fun i σ H' _ z => by obtain ⟨_, _, _, _, z, _⟩ := z; exact SqL.of (z _ _ hl)) ?_ ?_
    · rintro i v σ H2 H3 hi ⟨v2, v3, v4, rfl, s2, hno⟩ ⟨rfl, hv⟩
      obtain ⟨p, hp, rfl⟩ := map_at hv
      have pm := (inz p).mp (List.mem_of_getElem? hp)
      obtain ⟨q, hq, eq⟩ := List.mem_map.mp pm
      have x2 := x1.same s2
      have ea : alk fs p = some q.2 := by rw [← eq]; exact mem_alk x.nl hq
      obtain ⟨-, xs, hl2, hx⟩ := x2.fe q hq
      rw [eq] at hx
      have vv : valV (fs.map (ent V.ref)) (.inl p) = some (.ref q.2) := by rw [val_ent, ea]; rfl
      have lx : xs.length = (LB p).length := Paired.length hx
      have lim1 := lim p
      refine ⟨_, rfl, ?_⟩
      refine ⟨_, rfl, sa, .ref ln, rfl, x2.line, _, rfl, ln, .ref q.2, rfl, by rw [← vv]; exact DGet.k (k := .inl p) x2.hl, q.2, rfl, ⟨_, SqL.of hl2⟩, fun D hD => ?_⟩
      have s3 := same_new (o := .lst []) hD
      refine RU.out_it (walk_list (xs := xs)) (fun i H' => Same H3 H' ∧ H' D = some (.lst ((((LB p).take i).map (·.1)).map V.int))) ⟨s3, upd_same⟩ (fun i H' _ z => SqL.of (z.1 _ _ hl2)) ?_ ?_
      · rintro i y H4 H5 hi ⟨s4, hD4⟩ ⟨rfl, hy⟩
        obtain ⟨r, hr', t, rfl, ht⟩ := pget1 hx hy
        have et : ((LB p).take (i + 1)).map (·.1) = ((LB p).take i).map (·.1) ++ [r.1] := by
          rw [List.take_add_one, hr', List.map_append]
          rfl
        refine ⟨t, _, rfl, .inl (.inl (s4 _ _ ht)), rfl, ?_⟩
        refine ⟨_, _, rfl, _, _, rfl, rfl, ?_⟩
        refine ⟨rfl, ?_⟩
        dsimp only [tYes]
        refine iteT ⟨_, rfl, _, hD4, by rw [List.length_map, List.length_map, List.length_take]; unfold sizeLine; omega, same_upd s4 hD, ?_⟩
        rw [upd_same, et, List.map_append]
        rfl
      · rintro H4 ⟨s4, hD4⟩
        rw [show xs.length = (LB p).length from lx, List.take_length] at hD4
        refine ⟨D, _, rfl, .inl (SqL.of hD4), rfl, flat_ints _, ?_⟩
        rw [show (if false = true then !inV (V.int hand) (((LB p).map (·.1)).map V.int) else inV (V.int hand) (((LB p).map (·.1)).map V.int)) = decide (hand ∈ (LB p).map (·.1)) from inV_ints]
        refine ⟨_, rfl, ?_⟩
        by_cases c : hand ∈ (LB p).map (·.1)
        · rw [decide_eq_true c]
          refine iteT ⟨_, rfl, ?_⟩
          have z := kq _ ((s1.trans s2).trans s4)
          rw [(hw p).mpr c] at z
          exact z
        · rw [decide_eq_false c]
          refine iteF ⟨_, _, _, rfl, s2.trans s4, fun p' hp' => ?_⟩
          rw [List.take_add_one, hp, List.mem_append] at hp'
          rcases hp' with h | h
          · exact hno p' h
          · have e : p' = p := by simpa using h
            rw [e]
            exact c
    · rintro σ H2 ⟨v2, v3, v4, rfl, s2, hno⟩
      rw [List.length_map, List.take_length] at hno
      have z := kq _ (s1.trans s2)
      have e : W = none := by
        cases hW : W with
        | none => rfl
        | some p =>
          have h1 := (hw p).mp hW
          refine absurd h1 (hno p ((inz p).mpr (Classical.byContradiction fun h2 => ?_)))
          rw [x.fn p h2] at h1
          cases h1
      rw [e] at z
      exact z
end
end K37

namespace K37
open PySem PySem.Spec PyProof.Rows L2 RZ HX TR RP AL
theorem none_of {H H' : Hp} {y : Addr} (s : Same H H') (h : H' y = none) : H y = none := by
  cases z : H y with
  | none => rfl
  | some o => rw [s _ _ z] at h; cases h
section
variable {P : Program} {w : World} {K : PySem.W.Frag} {mg : Str → Option Value} {base : Heap}
def sp_law_taken : Sp := fun vs H Q _ => ∃ (st : Addr) (G : List Addr) (A B : Int → List HB) (PP : List Int) (hand page : Int) (lone : Bool), vs = [.ref st, .int hand, .int page, .bl lone] ∧ St H st G A B PP ∧ PP.length ≤ 100 ∧ (∀ p, (A p).length ≤ 100) ∧ (∀ p, (B p).length ≤ 100) ∧ page ∈ PP ∧
  ∀ (H' : Hp) (G' : List Addr), Out G H H' → (∀ y ∈ G', y ∈ G ∨ H y = none) → St H' st G' (takeA A B hand page lone) (takeB A B hand page lone) PP → Q (.bl (atOnce A B page lone)) H'
theorem ok_law_taken (T : TX K mg) : FnOk P w K mg base CX0 2 (He.ga K "_law_taken") T.fd_law_taken ["state", "hand", "page", "lone"] sp_law_taken := by
  have G_law_fits : FnOk P w K mg base CX0 1 (He.ga K "_law_fits") T.fd_law_fits ["state", "page", "lone"] sp_law_fits := ok_law_fits T
  have b_law_fits := b_law_fits T
  refine T.F_law_taken.ok sc_law_taken (fun vs H Q E h => ?_) (fun cdv A outer st H vs Q E hr h => ?_)
  · obtain ⟨s, G, A, B, PP, hand, page, lone, rfl, _⟩ := h
    rfl
  · obtain ⟨sa, G, LA, LB, PP, hand, page, lone, rfl, ⟨hd, ln, es, fs, x⟩, pl, la, lb, hp, kq⟩ := h
    refine ⟨_, PSs.nox (pss_cons (ps_set (i := 4) sc_law_taken.nd rfl (Or.inl rfl) (pe_dget2 (hu_of hr) (pe_dget (hu_of hr) (pv 0) pe_str (fun _ _ => rfl)) (pv 2) (pe_lst pa_nil) ⟨rfl, rfl, rfl, rfl⟩))
 (Evl.pss_cut (ps_if (PW.pt (pw_and (pt_cmpR (op_eqD hr.units) (pv 4) (pe_lst pa_nil) (nomark _)) (pw_and1 (pt_val (pe_call G_law_fits (hr.mono (by first | decide | omega)) rfl T.g_law_fits T.F_law_fits.kp b_law_fits .nil pass0 (pa_cons (pv 0) (pa_cons (pv 2) (pa_cons (pv 3) pa_nil))))))))
 (pss_cons (ps_dput (hu_of hr) (pe_dget (hu_of hr) (pv 0) pe_str (fun _ _ => rfl)) (pv 2) (pe_op op_cat (pe_dget2 (hu_of hr) (pe_dget (hu_of hr) (pv 0) pe_str (fun _ _ => rfl)) (pv 2) (pe_lst pa_nil) ⟨rfl, rfl, rfl, rfl⟩) (pe_lst (pa_cons (pe_tup (pa_cons (pv 1) (pa_cons (pv 3) pa_nil))) pa_nil))) rfl)
 (pss_one (ps_ret pe_bl)))
 pss_nil)
 (pss_cons (ps_dput (hu_of hr) (pe_dget (hu_of hr) (pv 0) pe_str (fun _ _ => rfl)) (pv 2) (pe_op op_cat (pv 4) (pe_lst (pa_cons (pe_tup (pa_cons (pv 1) (pa_cons (pv 3) pa_nil))) pa_nil))) rfl)
 (pss_one (ps_ret pe_bl))))), ?_⟩
    refine ⟨_, rfl, sa, _, rfl, x.line, ln, rfl, .inl ⟨_, .inl x.hl⟩, _, rfl, Nat.zero_le _, fun e he => ?_⟩
    have s1 := same_new (o := .lst []) he
    have he1 : upd H e (.lst []) e = some (.lst []) := upd_same
    have x1 := x.same s1
    generalize upd H e (.lst []) = H1 at s1 he1 x1
    refine ⟨_, DGet.k (k := .inl page) x1.hl, ?_⟩
    obtain ⟨l, el, ⟨xs, hl, hx⟩, hlG⟩ := x1.get_line he1 page
    rw [el]
    have lx : xs.length = (LB page).length := Paired.length hx
    have lb1 := lb page
    have la1 := la page
    refine ⟨fun σ' H' => σ' = [some (.ref sa), some (.int hand), some (.int page), some (.bl lone), some (.ref l)] ∧ Same H1 H' ∧ atOnce LA LB page lone = false, ?_, ?_⟩
    · refine ⟨_, rfl, Nat.zero_le _, fun q hq => ?_⟩
      have s2 := same_new (o := .lst []) hq
      have hq2 : upd H1 q (.lst []) q = some (.lst []) := upd_same
      generalize upd H1 q (.lst []) = H2 at s2 hq2
      have hl2 := s2 _ _ hl
      have hx2 : Paired (HbAt H2) xs (LB page) := paired_imp (fun _ _ r => HbAt.keep (Keep.of s2) r) hx
      have x2 := x1.same s2
      refine ⟨.list ((LB page).map rowD), .list [], .lst (SqL.of hl2) (hbs_dp hx2), .lst (SqL.of hq2) .nil, shaped_hbs _, by decide, ?_⟩
      rw [eqv_nil0, map_empty]
      refine ⟨_, rfl, ?_⟩
      have ea : atOnce LA LB page lone = ((LB page).isEmpty && fits (LA page) lone) := rfl
      cases hb : (LB page).isEmpty with
      | false => exact iteF (iteF ⟨rfl, s2, by rw [ea, hb]; rfl⟩)
      | true =>
        refine iteT ⟨_, rfl, _, rfl, _, rfl, sa, G, LA, LB, PP, page, lone, rfl, ⟨hd, ln, es, fs, x2⟩, la, fun H3 s3 => ⟨_, rfl, ?_⟩⟩
        rw [hb, Bool.true_and] at ea
        cases hf : fits (LA page) lone with
        | false => exact iteF ⟨rfl, s2.trans s3, by rw [ea, hf]⟩
        | true =>
          rw [hf] at ea
          refine iteT ?_
          have x3 := x2.same s3
          refine ⟨_, rfl, sa, _, rfl, x3.held, hd, rfl, .inl ⟨_, .inl x3.hh⟩, _, rfl, Nat.zero_le _, fun e4 he4 => ?_⟩
          have s4 := same_new (o := .lst []) he4
          have he5 : upd H3 e4 (.lst []) e4 = some (.lst []) := upd_same
          have x4 := x3.same s4
          generalize upd H3 e4 (.lst []) = H4 at s4 he5 x4
          refine ⟨_, DGet.k (k := .inl page) x4.hh, ?_⟩
          obtain ⟨l4, el4, ⟨ys, hl4, hy4⟩, _⟩ := x4.get_held he5 page
          rw [el4]
          have ly : ys.length = (LA page).length := Paired.length hy4
          refine ⟨_, rfl, _, rfl, by show 2 ≤ sizeLine; decide, fun t ht => ⟨by show 1 ≤ sizeLine; decide, fun b hb' => ?_⟩⟩
          have s5 := same_new (o := .tup [.int hand, .bl lone]) ht
          have ht5 : upd H4 t (.tup [.int hand, .bl lone]) t = some (.tup [.int hand, .bl lone]) := upd_same
          generalize upd H4 t (.tup [.int hand, .bl lone]) = H5 at s5 ht5 hb'
          have s6 := same_new (o := .lst [.ref t]) hb'
          have hb6 : upd H5 b (.lst [.ref t]) b = some (.lst [.ref t]) := upd_same
          generalize upd H5 b (.lst [.ref t]) = H6 at s6 hb6
          refine ⟨l4, b, ys, [.ref t], rfl, rfl, s6 _ _ (s5 _ _ hl4), hb6, by rw [ly]; show (LA page).length + 1 ≤ sizeLine; unfold sizeLine; omega, fun p hp' => ?_⟩
          have s7 := same_new (o := .lst (ys ++ [.ref t])) hp'
          have hp7 : upd H6 p (.lst (ys ++ [.ref t])) p = some (.lst (ys ++ [.ref t])) := upd_same
          generalize upd H6 p (.lst (ys ++ [.ref t])) = H7 at s7 hp7
          have s47 := (s5.trans s6).trans s7
          have x7 := x4.same s47
          refine ⟨_, rfl, sa, _, rfl, x7.held, _, rfl, hd, _, rfl, DPut.k (k := .inl page) x7.hh ?_, ?_⟩
          · rw [List.length_map]
            exact Nat.lt_of_le_of_lt (x7.el pl) (by decide)
          rw [put_ent (f := V.ref)]
          have qa : QuAt H7 p (LA page ++ [(hand, lone)]) := ⟨_, hp7, paired_app (paired_imp (fun _ _ r => HbAt.keep (Keep.of s47) r) hy4) (.cons ⟨t, rfl, s7 _ _ (s6 _ _ ht5)⟩ .nil)⟩
          have s07 := (((s1.trans s2).trans s3).trans s4).trans s47
          have eA : takeA LA LB hand page lone = fup LA page (LA page ++ [(hand, lone)]) := by unfold takeA; rw [if_pos ea]
          have eB : takeB LA LB hand page lone = LB := by unfold takeB; rw [if_pos ea]
          rw [ea, eA, eB] at kq
          exact kq _ (p :: G) ((Out.of s07).upd x.gh) (fun y hy => (List.mem_cons.mp hy).elim (fun e => .inr (by rw [e]; exact none_of (((((s1.trans s2).trans s3).trans s4).trans s5).trans s6) hp')) .inl) ⟨hd, ln, _, fs, x7.put_held qa hp⟩
    · rintro _ H3 ⟨rfl, s2, ea⟩
      have x4 := x1.same s2
      refine ⟨_, rfl, _, rfl, _, rfl, by show 2 ≤ sizeLine; decide, fun t ht => ⟨by show 1 ≤ sizeLine; decide, fun b hb' => ?_⟩⟩
      have s5 := same_new (o := .tup [.int hand, .bl lone]) ht
      have ht5 : upd H3 t (.tup [.int hand, .bl lone]) t = some (.tup [.int hand, .bl lone]) := upd_same
      generalize upd H3 t (.tup [.int hand, .bl lone]) = H5 at s5 ht5 hb'
      have s6 := same_new (o := .lst [.ref t]) hb'
      have hb6 : upd H5 b (.lst [.ref t]) b = some (.lst [.ref t]) := upd_same
      generalize upd H5 b (.lst [.ref t]) = H6 at s6 hb6
      refine ⟨l, b, xs, [.ref t], rfl, rfl, s6 _ _ (s5 _ _ (s2 _ _ hl)), hb6, by rw [lx]; show (LB page).length + 1 ≤ sizeLine; unfold sizeLine; omega, fun p hp' => ?_⟩
      have s7 := same_new (o := .lst (xs ++ [.ref t])) hp'
      have hp7 : upd H6 p (.lst (xs ++ [.ref t])) p = some (.lst (xs ++ [.ref t])) := upd_same
      generalize upd H6 p (.lst (xs ++ [.ref t])) = H7 at s7 hp7
      have s47 := (s5.trans s6).trans s7
      have x7 := x4.same s47
      refine ⟨_, rfl, sa, _, rfl, x7.line, _, rfl, ln, _, rfl, DPut.k (k := .inl page) x7.hl ?_, ?_⟩
      · rw [List.length_map]
        exact Nat.lt_of_le_of_lt (x7.fl pl) (by decide)
      rw [put_ent (f := V.ref)]
      have qa : QuAt H7 p (LB page ++ [(hand, lone)]) := ⟨_, hp7, paired_app (paired_imp (fun _ _ r => HbAt.keep (Keep.of (s2.trans s47)) r) hx) (.cons ⟨t, rfl, s7 _ _ (s6 _ _ ht5)⟩ .nil)⟩
      have s07 := (s1.trans s2).trans s47
      have na : ¬ atOnce LA LB page lone = true := by rw [ea]; exact Bool.false_ne_true
      have eA : takeA LA LB hand page lone = LA := by unfold takeA; rw [if_neg na]
      have eB : takeB LA LB hand page lone = fup LB page (LB page ++ [(hand, lone)]) := by unfold takeB; rw [if_neg na]
      rw [ea, eA, eB] at kq
      exact kq _ (p :: G) ((Out.of s07).upd x.gl) (fun y hy => (List.mem_cons.mp hy).elim (fun e => .inr (by rw [e]; exact none_of (((s1.trans s2).trans s5).trans s6) hp')) .inl) ⟨hd, ln, es, _, x7.put_line qa hp⟩
end
end K37

namespace K37
open PySem PySem.Spec PyProof.Rows L2 RZ HX TR RP AL
theorem out_fresh {F : List Addr} {H H' : Hp} {p : Addr} {o : HO} (h : Out F H H') (hp : H p = none) : Out F H (upd H' p o) := fun c u n e => by
  rw [upd_ne (ne_of_none e hp)]
  exact h c u n e
theorem out_none {F : List Addr} {H H' : Hp} {y : Addr} (o : Out F H H') (h : H' y = none) : y ∈ F ∨ H y = none := by
  by_cases m : y ∈ F
  · exact .inl m
  · refine .inr ?_
    cases z : H y with
    | none => rfl
    | some u => rw [o _ _ m z] at h; cases h
section
variable {P : Program} {w : World} {K : PySem.W.Frag} {mg : Str → Option Value} {base : Heap}
def sp_law_left : Sp := fun vs H Q _ => ∃ (st : Addr) (G : List Addr) (A B : Int → List HB) (PP : List Int) (hand page : Int), vs = [.ref st, .int hand, .int page] ∧ St H st G A B PP ∧ PP.length ≤ 100 ∧ (∀ p, (A p).length ≤ 100) ∧ (∀ p, (B p).length ≤ 100) ∧ (A page).length + (B page).length ≤ 100 ∧ page ∈ PP ∧ hand ∈ (A page).map (·.1) ∧
  ∀ (H' : Hp) (G' : List Addr) (t : Addr) (xs : List V), Out G H H' → (∀ y ∈ G', y ∈ G ∨ H y = none) → St H' st G' (letA A B hand page) (letB A B hand page) PP → RU.FzT H' t xs → Paired (HbAt H') xs (letP A B hand page).2.2 → Q (.ref t) H'
theorem ok_law_left (T : TX K mg) : FnOk P w K mg base CX0 2 (He.ga K "_law_left") T.fd_law_left ["state", "hand", "page"] sp_law_left := by
  have G_law_fits : FnOk P w K mg base CX0 1 (He.ga K "_law_fits") T.fd_law_fits ["state", "page", "lone"] sp_law_fits := ok_law_fits T
  have b_law_fits := b_law_fits T
  refine T.F_law_left.ok sc_law_left (fun vs H Q E h => ?_) (fun cdv A outer st H vs Q E hr h => ?_)
  · obtain ⟨s, G, A, B, PP, hand, page, rfl, _⟩ := h
    rfl
  · obtain ⟨sa, G, LA, LB, PP, hand, page, rfl, ⟨hd, ln, es, fs, x⟩, pl, la, lb, lab, hp, hh, kq⟩ := h
    have pm : page ∈ es.map (·.1) := Classical.byContradiction fun z => by
      rw [x.en page z] at hh
      cases hh
    obtain ⟨q0, hq0, eq0⟩ := List.mem_map.mp pm
    have ea0 : alk es page = some q0.2 := by rw [← eq0]; exact mem_alk x.nd hq0
    have qa0 := (x.ee q0 hq0).2
    rw [eq0] at qa0
    obtain ⟨xs, hl, hx⟩ := qa0
    have vv : valV (es.map (ent V.ref)) (.inl page) = some (.ref q0.2) := by rw [val_ent, ea0]; rfl
    have lx : xs.length = (LA page).length := Paired.length hx
    refine ⟨_, PSs.nox (pss_cons (ps_dput (hu_of hr) (pe_dget (hu_of hr) (pv 0) pe_str (fun _ _ => rfl)) (pv 2) (pe_lc (own := [("row", 5)]) (g := gName 5) (tt := _) rfl sc_law_left.nd (pi_list (pe_dget (hu_of hr) (pe_dget (hu_of hr) (pv 0) pe_str (fun _ _ => rfl)) (pv 2) (fun _ _ => rfl))) (blkOk_by (own := [("row", 5)]) (N := ["state", "hand", "page", "line", "found", "row"]) (sc := defScope s_law_left) (by decide +kernel)) (fun _ _ _ _ _ => (pg_name (i := 5) sc_law_left.nd rfl (Or.inl rfl))) (fun _ _ _ _ _ => pts_one (pt_cmpR op_ne (pe_ix (ixt K) (pv 5) pe_int (fun _ _ => rfl)) (pv 1) (nomark _))) (fun _ _ _ _ _ => (pv 5))) rfl)
 (pss_cons (ps_set (i := 3) sc_law_left.nd rfl (Or.inl rfl) (pe_dget2 (hu_of hr) (pe_dget (hu_of hr) (pv 0) pe_str (fun _ _ => rfl)) (pv 2) (pe_lst pa_nil) ⟨rfl, rfl, rfl, rfl⟩))
 (pss_cons (ps_set (i := 4) sc_law_left.nd rfl (Or.inl rfl) (pe_lst pa_nil))
 (Evl.pss_cut (ps_while PassesOwn.never (PW.pt (pw_and (pt_cmpR (op_neD hr.units) (pv 3) (pe_lst pa_nil) (nomark _)) (pw_and1 (pt_val (pe_call G_law_fits (hr.mono (by first | decide | omega)) rfl T.g_law_fits T.F_law_fits.kp b_law_fits .nil pass0 (pa_cons (pv 0) (pa_cons (pv 2) (pa_cons (pe_ix ix_tup (pe_ix ix_list (pv 3) pe_int (fun _ _ => rfl)) pe_int (fun _ _ => rfl)) pa_nil))))))))
 (pss_cons (ps_dput (hu_of hr) (pe_dget (hu_of hr) (pv 0) pe_str (fun _ _ => rfl)) (pv 2) (pe_op op_cat (pe_dget (hu_of hr) (pe_dget (hu_of hr) (pv 0) pe_str (fun _ _ => rfl)) (pv 2) (fun _ _ => rfl)) (pe_lst (pa_cons (pe_ix ix_list (pv 3) pe_int (fun _ _ => rfl)) pa_nil))) rfl)
 (pss_cons (ps_expr (pe_bm PySem.F.plainAttrs_list PySem.F.slot_list_append PySem.F.type_list_append mt_append (pv 4) (pa_cons (pe_ix ix_list (pv 3) pe_int (fun _ _ => rfl)) pa_nil)))
 (pss_one (ps_set (i := 3) sc_law_left.nd rfl (Or.inl rfl) (pe_slice sl_list (pv 3) (po_some pe_int) po_none))))))
 (pss_cons (ps_dput (hu_of hr) (pe_dget (hu_of hr) (pv 0) pe_str (fun _ _ => rfl)) (pv 2) (pv 3) rfl)
 (pss_one (ps_ret (pe_callTy RU.call_tupF rfl T.n_tuple (by decide +kernel) (pa_cons (pv 4) pa_nil))))))))), ?_⟩
    refine ⟨_, rfl, sa, .ref hd, rfl, x.held, _, rfl, hd, .ref q0.2, rfl, by rw [← vv]; exact DGet.k (k := .inl page) x.hh, q0.2, rfl, ⟨_, SqL.of hl⟩, fun D hD => ?_⟩
    have s1 := same_new (o := .lst []) hD
    refine RU.out_it (walk_list (xs := xs)) (fun i H' => Same H H' ∧ ∃ ys : List V, H' D = some (.lst ys) ∧ Paired (HbAt H') ys (lessH hand ((LA page).take i))) ⟨s1, [], upd_same, .nil⟩ (fun i H' _ z => SqL.of (z.1 _ _ hl)) ?_ ?_
    · rintro i y H3 H4 hi ⟨s4, ys, hD4, hys⟩ ⟨rfl, hy⟩
      obtain ⟨r, hr', t, rfl, ht⟩ := pget1 hx hy
      have et : lessH hand ((LA page).take (i + 1)) = lessH hand ((LA page).take i) ++ lessH hand [r] := by
        unfold lessH
        rw [List.take_add_one, hr', List.filter_append]
        rfl
      have small : ys.length ≤ 100 := by
        have h1 := hys.length
        have h2 := List.length_filter_le (fun q : HB => decide (q.1 ≠ hand)) ((LA page).take i)
        have h3 := la page
        have h4 := List.length_take_le i (LA page)
        have h5 : (lessH hand ((LA page).take i)).length ≤ ((LA page).take i).length := h2
        rw [List.length_take] at h5
        omega
      have ht4 := s4 _ _ ht
      refine ⟨rfl, ?_⟩
      refine ⟨_, rfl, t, _, _, _, rfl, rfl, SqT.of ht4, rfl, _, rfl, rfl, ?_⟩
      refine ⟨_, rfl, ?_⟩
      by_cases c : r.1 = hand
      · have e1 : (!decide (V.int r.1 = V.int hand)) = false := by rw [c, decide_eq_true rfl]; rfl
        rw [e1]
        refine iteF ⟨s4, ys, hD4, ?_⟩
        rw [et]
        have e2 : lessH hand [r] = [] := by unfold lessH; rw [List.filter_cons, if_neg (by rw [decide_eq_true_eq]; exact fun h => h c)]; rfl
        rw [e2, List.append_nil]
        exact hys
      · have e1 : (!decide (V.int r.1 = V.int hand)) = true := by
          rw [decide_eq_false (fun z => c (by injection z))]
          rfl
        rw [e1]
        refine iteT ⟨_, rfl, ys, hD4, by unfold sizeLine; omega, same_upd s4 hD, ys ++ [.ref t], upd_same, ?_⟩
        have e2 : lessH hand [r] = [r] := by unfold lessH; rw [List.filter_cons, if_pos (by rw [decide_eq_true_eq]; exact c)]; rfl
        rw [et, e2]
        have k : Keep H4 (upd H4 D (.lst (ys ++ [.ref t]))) := (Keep.refl H4).upd fun u e => by rw [hD4] at e; cases e; rfl
        exact paired_app (paired_imp (fun _ _ r => HbAt.keep k r) hys) (.cons ⟨t, rfl, k _ _ ht4⟩ .nil)
    · rintro H1 ⟨s1, ys, hD1, hys⟩
      rw [show xs.length = (LA page).length from lx, List.take_length] at hys
      have x1 := x.same s1
      have nD : D ∉ G := fun m => by
        obtain ⟨o, z, _⟩ := x.reg D m
        rw [z] at hD
        cases hD
      refine ⟨_, rfl, sa, _, rfl, x1.held, _, rfl, hd, _, rfl, DPut.k (k := .inl page) x1.hh ?_, ?_⟩
      · rw [List.length_map]
        exact Nat.lt_of_le_of_lt (x1.el pl) (by decide)
      rw [put_ent (f := V.ref)]
      have x2 := x1.put_held (qs := lessH hand (LA page)) ⟨_, hD1, hys⟩ hp
      have o2 : Out G H (upd H1 hd (.dK ((aput es page D).map (ent V.ref)))) := (Out.of s1).upd x.gh
      generalize upd H1 hd (.dK ((aput es page D).map (ent V.ref))) = H2 at x2 o2
      have hpg2 : page ∈ (aput es page D).map (·.1) := by
        rw [put_keys, if_pos pm]
        exact pm
      generalize aput es page D = es2 at x2 hpg2
      refine ⟨_, rfl, sa, _, rfl, x2.line, ln, rfl, .inl ⟨_, .inl x2.hl⟩, _, rfl, Nat.zero_le _, fun e he => ?_⟩
      have s3 := same_new (o := .lst []) he
      have he1 : upd H2 e (.lst []) e = some (.lst []) := upd_same
      have x3 := x2.same s3
      have o3 := o2.trans (Out.of s3)
      generalize upd H2 e (.lst []) = H3 at s3 he1 x3 o3
      refine ⟨_, DGet.k (k := .inl page) x3.hl, ?_⟩
      obtain ⟨l, el, hlq, hlG⟩ := x3.get_line he1 page
      rw [el]
      refine ⟨by show 0 ≤ sizeLine; decide, fun gd hgd => ?_⟩
      have s4 := same_new (o := .lst []) hgd
      have hg4 : upd H3 gd (.lst []) gd = some (.lst []) := upd_same
      have x4 := x3.same s4
      have o4 := o3.trans (Out.of s4)
      have hlq4 := hlq.same s4
      have ngl : l ≠ gd := fun z => by
        obtain ⟨zs, z1, _⟩ := hlq
        rw [z, hgd] at z1
        cases z1
      have ngG : gd ∉ D :: G := fun m => by
        obtain ⟨u, z, _⟩ := x3.reg gd m
        rw [hgd] at z
        cases z
      have gH : H gd = none := by
        cases z : H gd with
        | none => rfl
        | some u => exact absurd (o3 _ _ (fun m => ngG (List.mem_cons_of_mem _ m)) z) (by rw [hgd]; simp)
      generalize upd H3 gd (.lst []) = H4 at s4 hg4 x4 o4 hlq4
      have newG : ∀ y ∈ D :: G, y ∈ G ∨ H y = none := fun y hy => (List.mem_cons.mp hy).elim (fun e => .inr (by rw [e]; exact hD)) .inl
      have lnew : l ∈ G ∨ H l = none := hlG.elim (fun e1 => by rw [e1]; exact out_none o2 he) (newG l)
      have la1 : (lessH hand (LA page)).length + (LB page).length ≤ 100 := by
        have h2 := List.length_filter_le (fun q : HB => decide (q.1 ≠ hand)) (LA page)
        have h5 : (lessH hand (LA page)).length ≤ (LA page).length := h2
        omega
      refine ⟨fun σ H' => ∃ (hs qs g : List HB) (l : Addr) (Gc : List Addr) (es' : List (Int × Addr)) (v5 : Option V) (xs : List V), σ = [some (.ref sa), some (.int hand), some (.int page), some (.ref l), some (.ref gd), v5] ∧ Out G H H' ∧ (∀ y ∈ Gc, y ∈ G ∨ H y = none) ∧ StAt H' sa Gc (fup LA page hs) LB PP hd ln es' fs ∧ H' gd = some (.lst xs) ∧ Paired (HbAt H') xs g ∧ QuAt H' l qs ∧ (l ∈ G ∨ H l = none) ∧ letP LA LB hand page = (hs, qs, g), ?_, ?_⟩
      · refine ⟨fun m σ H' => ∃ (hs qs g : List HB) (l : Addr) (Gc : List Addr) (es' : List (Int × Addr)) (v5 : Option V) (xs : List V), m = qs.length ∧ σ = [some (.ref sa), some (.int hand), some (.int page), some (.ref l), some (.ref gd), v5] ∧ Out G H H' ∧ (∀ y ∈ Gc, y ∈ G ∨ H y = none) ∧ StAt H' sa Gc (fup LA page hs) LB PP hd ln es' fs ∧ H' gd = some (.lst xs) ∧ Paired (HbAt H') xs g ∧ QuAt H' l qs ∧ (l ∈ G ∨ H l = none) ∧ gd ∉ Gc ∧ l ≠ gd ∧ page ∈ es'.map (·.1) ∧ letP LA LB hand page = ((prom hs qs).1, (prom hs qs).2.1, g ++ (prom hs qs).2.2) ∧ hs.length + qs.length ≤ 100 ∧ g.length + qs.length ≤ 100,
          ⟨_, lessH hand (LA page), LB page, [], l, D :: G, es2, none, [], rfl, rfl, o4, newG, x4, hg4, .nil, hlq4, lnew, ngG, ngl, hpg2, rfl, la1, by show 0 + (LB page).length ≤ 100; have := lb page; omega⟩, ?_⟩
        rintro m σ H5 ⟨hs, qs, g, l, Gc, es', v5, xs, rfl, rfl, o5, new5, x5, hg5, hxs5, ⟨ys, hl5, hy5⟩, ln5, gG5, gl5, hpg, eP, lh, lg⟩
        refine ⟨_, rfl, Nat.zero_le _, fun q hq => ?_⟩
        have s6 := same_new (o := .lst []) hq
        have hq6 : upd H5 q (.lst []) q = some (.lst []) := upd_same
        generalize upd H5 q (.lst []) = H6 at s6 hq6
        have hl6 := s6 _ _ hl5
        have hy6 : Paired (HbAt H6) ys qs := paired_imp (fun _ _ r => HbAt.keep (Keep.of s6) r) hy5
        have x6 := x5.same s6
        refine ⟨.list (qs.map rowD), .list [], .lst (SqL.of hl6) (hbs_dp hy6), .lst (SqL.of hq6) .nil, shaped_hbs _, by decide, ?_⟩
        rw [eqv_nil0, map_empty]
        refine ⟨_, rfl, ?_⟩
        cases qs with
        | nil =>
          exact iteF (iteF ⟨hs, [], g, l, Gc, es', v5, xs, rfl, o5.trans (Out.of s6), new5, x6, s6 _ _ hg5, paired_imp (fun _ _ r => HbAt.keep (Keep.of s6) r) hxs5, ⟨ys, hl6, hy6⟩, ln5, by rw [eP]; show (hs, [], g ++ []) = _; rw [List.append_nil]⟩)
        | cons q qs =>
          cases hy6 with
          | @cons y0 _ yr _ hq hyr =>
          obtain ⟨tq, rfl, htq⟩ := id hq
          have lim6 : ∀ p, (fup LA page hs p).length ≤ 100 := fun p => by
            by_cases c : p = page
            · rw [c, fup_eq]
              omega
            · rw [fup_ne c]
              exact la p
          refine iteT ⟨_, rfl, _, rfl, _, rfl, l, _, _, _, rfl, rfl, SqL.of hl6, HX.at_of (j := 0) rfl rfl, tq, _, _, _, rfl, rfl, SqT.of htq, rfl, sa, Gc, fup LA page hs, LB, PP, page, q.2, rfl, ⟨hd, ln, es', fs, x6⟩, lim6, fun H7 s7 => ⟨_, rfl, ?_⟩⟩
          rw [fup_eq]
          have x7 := x6.same s7
          have s67 := s6.trans s7
          have o7 := o5.trans (Out.of s67)
          have hg7 := s67 _ _ hg5
          have hxs7 := paired_imp (fun _ _ r => HbAt.keep (Keep.of s67) r) hxs5
          have hl7 := s7 _ _ hl6
          have hyr7 := paired_imp (fun _ _ r => HbAt.keep (Keep.of s7) r) hyr
          have htq7 := s7 _ _ htq
          cases hf : fits hs q.2 with
          | false =>
            have e : prom hs (q :: qs) = (hs, q :: qs, []) := by
              unfold prom
              rw [if_neg (by rw [hf]; exact Bool.false_ne_true)]
            rw [e, List.append_nil] at eP
            exact iteF ⟨hs, q :: qs, g, l, Gc, es', v5, xs, rfl, o7, new5, x7, hg7, hxs7, ⟨_, hl7, .cons ⟨tq, rfl, htq7⟩ hyr7⟩, ln5, eP⟩
          | true =>
            have e : prom hs (q :: qs) = ((prom (hs ++ [q]) qs).1, (prom (hs ++ [q]) qs).2.1, q :: (prom (hs ++ [q]) qs).2.2) := by
              conv => lhs; unfold prom
              rw [if_pos hf]
            refine iteT ⟨_, fun σ' H' h => ⟨qs.length, Nat.lt_succ_self _, h⟩, ?_⟩
            obtain ⟨q1, hq1, eq1⟩ := List.mem_map.mp hpg
            have ea1 : alk es' page = some q1.2 := by rw [← eq1]; exact mem_alk x7.nd hq1
            have qa1 := (x7.ee q1 hq1).2
            rw [eq1, fup_eq] at qa1
            obtain ⟨us, hu7, hup⟩ := qa1
            have vv1 : valV (es'.map (ent V.ref)) (.inl page) = some (.ref q1.2) := by rw [val_ent, ea1]; rfl
            have lu : us.length = hs.length := hup.length
            rw [List.length_cons] at lh lg
            refine ⟨_, rfl, sa, .ref hd, rfl, x7.held, _, rfl, hd, .ref q1.2, rfl, by rw [← vv1]; exact DGet.k (k := .inl page) x7.hh, _, rfl, l, _, _, _, rfl, rfl, SqL.of hl7, HX.at_of (j := 0) rfl rfl, by show 1 ≤ sizeLine; decide, fun b hb => ?_⟩
            have s8 := same_new (o := .lst [.ref tq]) hb
            have hb8 : upd H7 b (.lst [.ref tq]) b = some (.lst [.ref tq]) := upd_same
            have x8 := x7.same s8
            generalize upd H7 b (.lst [.ref tq]) = H8 at s8 hb8 x8
            refine ⟨q1.2, b, us, [.ref tq], rfl, rfl, s8 _ _ hu7, hb8, by rw [lu]; show hs.length + 1 ≤ sizeLine; unfold sizeLine; omega, fun p hp' => ?_⟩
            have s9 := same_new (o := .lst (us ++ [.ref tq])) hp'
            have hp9 : upd H8 p (.lst (us ++ [.ref tq])) p = some (.lst (us ++ [.ref tq])) := upd_same
            have pn : p ≠ gd := fun z => by rw [z, s8 _ _ hg7] at hp'; cases hp'
            have pH : p ∈ G ∨ H p = none := by
              by_cases m : p ∈ G
              · exact .inl m
              · refine .inr ?_
                cases z : H p with
                | none => rfl
                | some u => exact absurd (s8 _ _ (o7 _ _ m z)) (by rw [hp']; simp)
            generalize upd H8 p (.lst (us ++ [.ref tq])) = H9 at s9 hp9
            have s89 := s8.trans s9
            have x9 := x8.same s9
            have o9 := o7.trans (Out.of s89)
            have hg9 := s89 _ _ hg7
            have hxs9 := paired_imp (fun _ _ r => HbAt.keep (Keep.of s89) r) hxs7
            have hl9 := s89 _ _ hl7
            have hyr9 := paired_imp (fun _ _ r => HbAt.keep (Keep.of s89) r) hyr7
            have htq9 := s89 _ _ htq7
            have qa : QuAt H9 p (hs ++ [q]) := ⟨_, hp9, paired_app (paired_imp (fun _ _ r => HbAt.keep (Keep.of s89) r) hup) (.cons ⟨tq, rfl, htq9⟩ .nil)⟩
            have k9 := keep_dk (fs := (aput es' page p).map (ent V.ref)) x9.hh
            refine ⟨_, rfl, sa, _, rfl, x9.held, _, rfl, hd, _, rfl, DPut.k (k := .inl page) x9.hh ?_, ?_⟩
            · rw [List.length_map]
              exact Nat.lt_of_le_of_lt (x9.el pl) (by decide)
            rw [put_ent (f := V.ref)]
            have xa := x9.put_held qa hp
            rw [fup_fup] at xa
            have hdG : hd ∈ G := x.gh
            have oa := o9.upd (o := .dK ((aput es' page p).map (ent V.ref))) hdG
            have gdd : gd ≠ hd := fun z => by rw [z, x9.hh] at hg9; cases hg9
            have ldd : l ≠ hd := fun z => by rw [z, x9.hh] at hl9; cases hl9
            have hga : upd H9 hd (.dK ((aput es' page p).map (ent V.ref))) gd = some (.lst xs) := by rw [upd_ne gdd]; exact hg9
            have hla : upd H9 hd (.dK ((aput es' page p).map (ent V.ref))) l = some (.lst (V.ref tq :: yr)) := by rw [upd_ne ldd]; exact hl9
            have hxsa := paired_imp (fun _ _ r => HbAt.keep k9 r) hxs9
            have hyra := paired_imp (fun _ _ r => HbAt.keep k9 r) hyr9
            have htqa := k9 _ _ htq9
            have hpga : page ∈ (aput es' page p).map (·.1) := by
              rw [put_keys, if_pos hpg]
              exact hpg
            generalize upd H9 hd (.dK ((aput es' page p).map (ent V.ref))) = Ha at xa oa hga hla hxsa hyra htqa
            generalize aput es' page p = esa at xa hpga
            have lxs : xs.length = g.length := hxs5.length
            refine ⟨_, rfl, .inl ⟨rfl, _, SqL.of hga⟩, _, rfl, l, _, _, _, rfl, rfl, SqL.of hla, HX.at_of (j := 0) rfl rfl, _, _, _, rfl, rfl, hga, by unfold sizeLine; omega, ?_⟩
            have ob := out_fresh (o := .lst (xs ++ [.ref tq])) oa gH
            have kb : Keep Ha (upd Ha gd (.lst (xs ++ [.ref tq]))) := (Keep.refl Ha).upd fun u e => by rw [hga] at e; cases e; rfl
            have gGa : gd ∉ p :: Gc := fun m => (List.mem_cons.mp m).elim (fun e => pn e.symm) gG5
            have xb := xa.out (F := [gd]) (Out.refl.upd (o := .lst (xs ++ [.ref tq])) (List.mem_cons_self ..)) kb (fun y hy z => gGa (by rw [← List.mem_singleton.mp z]; exact hy))
            have hlb : upd Ha gd (.lst (xs ++ [.ref tq])) l = some (.lst (V.ref tq :: yr)) := by rw [upd_ne gl5]; exact hla
            have hgb : upd Ha gd (.lst (xs ++ [.ref tq])) gd = some (.lst (xs ++ [.ref tq])) := upd_same
            have hxsb := paired_app (paired_imp (fun _ _ r => HbAt.keep kb r) hxsa) (.cons ⟨tq, rfl, kb _ _ htqa⟩ .nil)
            have hyrb := paired_imp (fun _ _ r => HbAt.keep kb r) hyra
            generalize upd Ha gd (.lst (xs ++ [.ref tq])) = Hb at xb ob hlb hgb hxsb hyrb
            refine ⟨_, rfl, _, rfl, l, _, rfl, SqL.of hlb, fun l2 hl2 => ?_⟩
            have sc := same_new (o := .lst (cutV (V.ref tq :: yr) (some 1) none)) hl2
            have ec : cutV (V.ref tq :: yr) (some 1) none = yr := cut_from (n := 1) (Nat.succ_le_succ (Nat.zero_le _))
            have g2 : l2 ≠ gd := fun z => by rw [z, hgb] at hl2; cases hl2
            rw [e] at eP
            refine ⟨hs ++ [q], qs, g ++ [q], l2, p :: Gc, esa, v5, xs ++ [.ref tq], rfl, rfl, ob.trans (Out.of sc), fun y hy => (List.mem_cons.mp hy).elim (fun e => by rw [e]; exact pH) (new5 y), xb.same sc, sc _ _ hgb, paired_imp (fun _ _ r => HbAt.keep (Keep.of sc) r) hxsb, ⟨yr, by rw [upd_same, ec], paired_imp (fun _ _ r => HbAt.keep (Keep.of sc) r) hyrb⟩, out_none ob hl2, gGa, g2, hpga, by rw [eP, List.append_assoc]; rfl, by rw [List.length_append]; show hs.length + 1 + qs.length ≤ 100; omega, by rw [List.length_append]; show g.length + 1 + qs.length ≤ 100; omega⟩
      · rintro σ H5 ⟨hs, qs, g, l, Gc, es', v5, xs, rfl, o5, new5, x5, hg5, hxs5, hq5, lnew, eP⟩
        refine ⟨_, rfl, _, rfl, sa, _, rfl, x5.line, _, rfl, ln, _, rfl, DPut.k (k := .inl page) x5.hl ?_, ?_⟩
        · rw [List.length_map]
          exact Nat.lt_of_le_of_lt (x5.fl pl) (by decide)
        rw [put_ent (f := V.ref)]
        have x6 := x5.put_line hq5 hp
        have o6 := o5.upd (o := .dK ((aput fs page l).map (ent V.ref))) x.gl
        have k6 := keep_dk (fs := (aput fs page l).map (ent V.ref)) x5.hl
        have gdl : gd ≠ ln := fun z => by rw [z, x5.hl] at hg5; cases hg5
        have hg6 : upd H5 ln (.dK ((aput fs page l).map (ent V.ref))) gd = some (.lst xs) := by rw [upd_ne gdl]; exact hg5
        have hxs6 := paired_imp (fun _ _ r => HbAt.keep k6 r) hxs5
        generalize upd H5 ln (.dK ((aput fs page l).map (ent V.ref))) = H6 at x6 o6 hg6 hxs6
        refine ⟨_, rfl, gd, _, rfl, SqL.of hg6, fun r ro hr hro => ?_⟩
        have s7 := same_new (o := .frz ro (.tup xs)) hr
        have eA : letA LA LB hand page = fup LA page hs := by unfold letA; rw [eP]
        have eB : letB LA LB hand page = fup LB page qs := by unfold letB; rw [eP]
        rw [eA, eB, eP] at kq
        exact kq _ (l :: Gc) r xs (o6.trans (Out.of s7)) (fun y hy => (List.mem_cons.mp hy).elim (fun e => by rw [e]; exact lnew) (new5 y)) ⟨hd, ln, es', _, x6.same s7⟩ ⟨ro, upd_same, hro⟩ (paired_imp (fun _ _ r => HbAt.keep (Keep.of s7) r) hxs6)
end
end K37

namespace K37
open PySem PySem.Spec PyProof.Rows L2 RZ HX TR RP AL
theorem era_map {α β : Type} {f : α → β} : ∀ {xs : List α} {k : Nat}, (xs.map f).eraseIdx k = (xs.eraseIdx k).map f
  | [], _ => rfl
  | _ :: _, 0 => rfl
  | x :: xs, k + 1 => congrArg (f x :: ·) (era_map (xs := xs) (k := k))
theorem era_perm {α : Type} : ∀ {xs : List α} {k : Nat} (h : k < xs.length), (xs[k] :: xs.eraseIdx k).Perm xs
  | x :: xs, 0, _ => List.Perm.refl _
  | x :: xs, k + 1, h => (List.Perm.swap x _ _).trans ((era_perm (xs := xs) (k := k) (Nat.lt_of_succ_lt_succ h)).cons x)
theorem but_fresh {a p : Addr} {H H' : Hp} {o : HO} (h : But a H H') (hp : H p = none) : But a H (upd H' p o) := fun c u n e => by
  rw [upd_ne (ne_of_none e hp)]
  exact h c u n e
theorem but_none {a : Addr} {H H' : Hp} {y : Addr} (o : But a H H') (n : y ≠ a) (h : H' y = none) : H y = none := by
  cases z : H y with
  | none => rfl
  | some u => rw [o _ _ n z] at h; cases h
section
variable {P : Program} {w : World} {K : PySem.W.Frag} {mg : Str → Option Value} {base : Heap}
def sp_law_unlike : Sp := fun vs H Q _ => ∃ (p : Addr) (many most : Nat) (B : Int), vs = [.ref p, .int (many : Int), .int (most : Int)] ∧ many ≤ most ∧ most ≤ 400 ∧ PotOk H p B ∧ B < 2 ^ 39 ∧
  ∀ (H' : Hp) (l : Addr) (zs : List Int), But p H H' → PotOk H' p (B + many) → H l = none → H' l = some (.lst (zs.map V.int)) → zs.length = many → zs.Nodup → (∀ z ∈ zs, 0 ≤ z ∧ z < most) → Q (.ref l) H'
theorem ok_law_unlike (T : TX K mg) : FnOk P w K mg base CX0 2 (He.ga K "_law_unlike") T.fd_law_unlike ["pot", "many", "most"] sp_law_unlike := by
  have G_law_take : FnOk P w K mg base CX0 1 (He.ga K "_law_take") T.fd_law_take ["pot", "many"] sp_law_take := ok_law_take T
  have b_law_take := b_law_take T
  refine T.F_law_unlike.ok sc_law_unlike (fun vs H Q E h => ?_) (fun cdv A outer st H vs Q E hr h => ?_)
  · obtain ⟨p, many, most, B, rfl, _⟩ := h
    rfl
  · obtain ⟨p, many, most, B, rfl, hm, hm2, hpot, hB, kq⟩ := h
    refine ⟨_, PSs.nox (pss_cons (ps_set (i := 3) sc_law_unlike.nd rfl (Or.inl rfl) (pe_listRg rfl rfl T.n_list (prg_1 rfl T.n_range (pv 2))))
 (pss_cons (ps_set (i := 4) sc_law_unlike.nd rfl (Or.inl rfl) (pe_lst pa_nil))
 (pss_cons (ps_for PassesOwn.never rfl (pi_range1 rfl T.n_range (pa_cons (pv 1) pa_nil)) (pg_name (i := 5) sc_law_unlike.nd rfl (Or.inl rfl))
 (pss_one (ps_expr (pe_bm PySem.F.plainAttrs_list PySem.F.slot_list_append PySem.F.type_list_append mt_append (pv 4) (pa_cons (pe_bm PySem.F.plainAttrs_list PySem.F.slot_list_pop PySem.F.type_list_pop mt_popAt (pv 3) (pa_cons (pe_call G_law_take (hr.mono (by first | decide | omega)) rfl T.g_law_take T.F_law_take.kp b_law_take .nil pass0 (pa_cons (pv 0) (pa_cons (pe_callB call_len_seq rfl T.n_len PySem.boot_len (pa_cons (pv 3) pa_nil)) pa_nil))) pa_nil)) pa_nil)))))
 (pss_one (ps_ret (pv 4)))))), ?_⟩
    refine ⟨_, rfl, _, rfl, by unfold RgOk; omega, fun lf hlf => ?_⟩
    have eR : rgV 0 (most : Int) = ((List.range most).map fun i : Nat => (i : Int)).map V.int := by
      unfold rgV
      rw [List.map_map]
      simp
    rw [eR]
    obtain ⟨l0, el0⟩ : ∃ l0, l0 = (List.range most).map fun i : Nat => (i : Int) := ⟨_, rfl⟩
    rw [← el0]
    have nd0 : l0.Nodup := by
      rw [el0]
      exact List.nodup_iff_pairwise_ne.mpr (List.pairwise_map.mpr ((List.nodup_iff_pairwise_ne.mp List.nodup_range).imp fun h e => h (Int.ofNat.inj e)))
    have bd0 : ∀ z ∈ l0, 0 ≤ z ∧ z < most := fun z hz => by
      rw [el0] at hz
      obtain ⟨i, hi, rfl⟩ := List.mem_map.mp hz
      have := List.mem_range.mp hi
      omega
    have len0 : l0.length = most := by rw [el0, List.length_map, List.length_range]
    have s1 := same_new (o := .lst (l0.map V.int)) hlf
    have hlf1 : upd H lf (.lst (l0.map V.int)) lf = some (.lst (l0.map V.int)) := upd_same
    have hpot1 := hpot.same s1
    generalize upd H lf (.lst (l0.map V.int)) = H1 at s1 hlf1 hpot1
    refine ⟨Nat.zero_le _, fun fd hfd => ?_⟩
    have s2 := same_new (o := .lst []) hfd
    have hfd2 : upd H1 fd (.lst []) fd = some (.lst []) := upd_same
    have hlf2 := s2 _ _ hlf1
    have hpot2 := hpot1.same s2
    have nfl : lf ≠ fd := fun z => by rw [z, hfd] at hlf1; cases hlf1
    have nlp : lf ≠ p := fun z => by
      obtain ⟨_, _, _, e, _⟩ := hpot
      rw [← z, hlf] at e
      cases e
    have nfp : fd ≠ p := fun z => by
      obtain ⟨_, _, _, e, _⟩ := hpot1
      rw [← z, hfd] at e
      cases e
    have fdH : H fd = none := by
      cases z : H fd with
      | none => rfl
      | some u => rw [s1 _ _ z] at hfd; cases hfd
    generalize upd H1 fd (.lst []) = H2 at s2 hfd2 hlf2 hpot2
    refine ⟨_, rfl, many, rfl, by omega, by omega, ?_⟩
    rw [Int.toNat_natCast]
    refine for_it walk_range (fun i σ H' => ∃ (v5 : Option V) (ls zs : List Int), σ = [some (.ref p), some (.int many), some (.int most), some (.ref lf), some (.ref fd), v5] ∧ But p H H' ∧ PotOk H' p (B + i) ∧ H' lf = some (.lst (ls.map V.int)) ∧ H' fd = some (.lst (zs.map V.int)) ∧ zs.length = i ∧ ls.length + i = most ∧ (zs ++ ls).Nodup ∧ ∀ z ∈ zs ++ ls, 0 ≤ z ∧ z < most) ⟨none, l0, [], rfl, But.of (s1.trans s2), hpot2.le (by omega), hlf2, hfd2, rfl, len0, nd0, bd0⟩ (fun _ _ _ _ _ => trivial) ?_ ?_
    · rintro i v σ H3 H4 hi ⟨v5, ls, zs, rfl, b3, pot3, hlf3, hfd3, lz, ll, nd, bd⟩ ⟨rfl, rfl⟩
      refine ⟨_, rfl, .inl ⟨rfl, _, SqL.of hfd3⟩, _, rfl, .inl ⟨rfl, _, SqL.of hlf3⟩, _, rfl, _, rfl, lf, _, rfl, .inl (SqL.of hlf3), p, _, _, rfl, by rw [List.length_map]; omega, by rw [List.length_map]; omega, pot3, by omega, fun H5 v b5 pot5 v0 v1 => ?_⟩
      rw [List.length_map] at v1
      obtain ⟨k, rfl⟩ : ∃ k : Nat, v = (k : Int) := ⟨v.toNat, by omega⟩
      have hk : k < ls.length := by omega
      have hlf5 := b5 _ _ nlp hlf3
      have hfd5 := b5 _ _ nfp hfd3
      refine ⟨lf, _, (k : Int), k, .int ls[k], rfl, rfl, hlf5, by omega, by omega, seqk (by rw [List.length_map]; exact hk), by rw [List.getElem?_map, List.getElem?_eq_getElem hk]; rfl, ?_⟩
      have ee : (ls.map V.int).eraseIdx k = (ls.eraseIdx k).map V.int := era_map
      rw [ee]
      have b6 : But p H (upd H5 lf (.lst ((ls.eraseIdx k).map V.int))) := but_fresh (b3.trans b5) hlf
      have hfd6 : upd H5 lf (.lst ((ls.eraseIdx k).map V.int)) fd = some (.lst (zs.map V.int)) := by rw [upd_ne nfl.symm]; exact hfd5
      have hlf6 : upd H5 lf (.lst ((ls.eraseIdx k).map V.int)) lf = some (.lst ((ls.eraseIdx k).map V.int)) := upd_same
      have pot6 : PotOk (upd H5 lf (.lst ((ls.eraseIdx k).map V.int))) p (B + i + 1) := by
        obtain ⟨x, y, c, h1, h2⟩ := pot5
        exact ⟨x, y, c, by rw [upd_ne nlp.symm]; exact h1, h2⟩
      generalize upd H5 lf (.lst ((ls.eraseIdx k).map V.int)) = H6 at b6 hfd6 hlf6 pot6
      have pm : (ls[k] :: ls.eraseIdx k).Perm ls := era_perm hk
      have pm2 : ((zs ++ [ls[k]]) ++ ls.eraseIdx k).Perm (zs ++ ls) := by
        rw [List.append_assoc]
        exact List.Perm.append_left zs pm
      refine ⟨fd, _, _, rfl, rfl, hfd6, by rw [List.length_map, lz]; unfold sizeLine; omega, ?_⟩
      refine ⟨_, ls.eraseIdx k, zs ++ [ls[k]], rfl, but_fresh b6 fdH, ?_, by rw [upd_ne nfl]; exact hlf6, by rw [upd_same, List.map_append]; rfl, by rw [List.length_append, lz]; rfl, by rw [List.length_eraseIdx_of_lt hk]; omega, pm2.nodup_iff.mpr nd, fun z hz => bd z (pm2.mem_iff.mp hz)⟩
      obtain ⟨x, y, c, h1, h2⟩ := pot6
      refine ⟨x, y, c, by rw [upd_ne nfp.symm]; exact h1, ?_⟩
      have : B + ((i + 1 : Nat) : Int) = B + i + 1 := by omega
      rw [this]
      exact h2
    · rintro σ H3 ⟨v5, ls, zs, rfl, b3, pot3, hlf3, hfd3, lz, ll, nd, bd⟩
      exact ⟨_, rfl, kq _ fd zs b3 pot3 fdH hfd3 lz (nd.sublist (List.sublist_append_left _ _)) fun z hz => bd z (List.mem_append_left _ hz)⟩
end
end K37

namespace K37
open PySem PySem.Spec PyProof.Rows L2 RZ HX TR RP AL
section
variable {P : Program} {w : World} {K : PySem.W.Frag} {mg : Str → Option Value} {base : Heap}
def sp_law_named : Sp := fun vs H Q _ => ∃ (p : Addr) (hn pg B : Int), vs = [.ref p, .int hn, .int pg] ∧ 0 < hn ∧ hn ≤ 7 ∧ 0 < pg ∧ pg ≤ 5 ∧ PotOk H p B ∧ B < 2 ^ 38 ∧
  ∀ (H' : Hp) (t l1 l2 : Addr) (hs ps : List Int), But p H H' → PotOk H' p (B + 20) → H' t = some (.tup [.ref l1, .ref l2]) → H l1 = none → H l2 = none → H' l1 = some (.lst (hs.map V.int)) → H' l2 = some (.lst (ps.map V.int)) → l1 ≠ l2 → hs.Nodup → ps.Nodup → hs.length ≤ 7 → ps.length ≤ 5 → ps ≠ [] → hs ≠ [] → (∀ z ∈ hs, 0 ≤ z ∧ z ≤ 60) → (∀ z ∈ ps, 0 ≤ z ∧ z ≤ 1000000) → Q (.ref t) H'
theorem ok_law_named (T : TX K mg) : FnOk P w K mg base CX0 3 (He.ga K "_law_named") T.fd_law_named ["pot", "hands", "pages"] sp_law_named := by
  have G_law_take : FnOk P w K mg base CX0 1 (He.ga K "_law_take") T.fd_law_take ["pot", "many"] sp_law_take := ok_law_take T
  have b_law_take := b_law_take T
  have G_law_unlike : FnOk P w K mg base CX0 2 (He.ga K "_law_unlike") T.fd_law_unlike ["pot", "many", "most"] sp_law_unlike := ok_law_unlike T
  have b_law_unlike := b_law_unlike T
  refine T.F_law_named.ok sc_law_named (fun vs H Q E h => ?_) (fun cdv A outer st H vs Q E hr h => ?_)
  · obtain ⟨p, hn, pg, B, rfl, _⟩ := h
    rfl
  · obtain ⟨p, hn, pg, B, rfl, hn0, hn1, pg0, pg1, hpot, hB, kq⟩ := h
    refine ⟨_, PSs.nox (pss_cons (ps_set (i := 3) sc_law_named.nd rfl (Or.inl rfl) (pe_call G_law_unlike (hr.mono (by first | decide | omega)) rfl T.g_law_unlike T.F_law_unlike.kp b_law_unlike .nil pass0 (pa_cons (pv 0) (pa_cons (pe_op op_add pe_int (pe_call G_law_take (hr.mono (by first | decide | omega)) rfl T.g_law_take T.F_law_take.kp b_law_take .nil pass0 (pa_cons (pv 0) (pa_cons (pv 1) pa_nil)))) (pa_cons (pe_ix ix_list (pe_lst (pa_cons (pv 1) (pa_cons pe_int pa_nil))) (pe_call G_law_take (hr.mono (by first | decide | omega)) rfl T.g_law_take T.F_law_take.kp b_law_take .nil pass0 (pa_cons (pv 0) (pa_cons pe_int pa_nil))) (fun _ _ => rfl)) pa_nil)))))
 (pss_cons (ps_set (i := 4) sc_law_named.nd rfl (Or.inr rfl) (pe_ix ix_list (pe_lst (pa_cons pe_int (pa_cons pe_int (pa_cons (pe_op op_sub (pe_op op_powW pe_int pe_int) pe_int) pa_nil)))) (pe_call G_law_take (hr.mono (by first | decide | omega)) rfl T.g_law_take T.F_law_take.kp b_law_take .nil pass0 (pa_cons (pv 0) (pa_cons pe_int pa_nil))) (fun _ _ => rfl)))
 (pss_one (ps_ret (pe_tup (pa_cons (pv 3) (pa_cons (pe_lc (own := [("page", 5)]) (g := gName 5) (tt := tYes) rfl sc_law_named.nd (pi_list (pe_call G_law_unlike (hr.mono (by first | decide | omega)) rfl T.g_law_unlike T.F_law_unlike.kp b_law_unlike .nil pass0 (pa_cons (pv 0) (pa_cons (pe_op op_add pe_int (pe_call G_law_take (hr.mono (by first | decide | omega)) rfl T.g_law_take T.F_law_take.kp b_law_take .nil pass0 (pa_cons (pv 0) (pa_cons (pv 2) pa_nil)))) (pa_cons pe_int pa_nil))))) (blkOk_by (own := [("page", 5)]) (N := ["pot", "hands", "pages", "some", "by", "page"]) (sc := defScope s_law_named) (by decide +kernel)) (fun _ _ _ _ _ => (pg_name (i := 5) sc_law_named.nd rfl (Or.inl rfl))) (fun _ _ _ _ _ => pts_nil) (fun _ _ _ _ _ => (pe_op op_add (pv 4) (pv 5)))) pa_nil))))))), ?_⟩
    refine ⟨_, rfl, _, rfl, _, rfl, p, hn, B, rfl, by omega, by omega, hpot, by omega, fun H1 v b1 pot1 v0 v1 => ⟨_, _, rfl, rfl, ?_⟩⟩
    refine ⟨_, rfl, by show 2 ≤ sizeLine; decide, fun q hq => ?_⟩
    obtain ⟨hm, ehm⟩ : ∃ m : Nat, hn = (m : Int) := ⟨hn.toNat, by omega⟩
    have s2 := same_new (o := .lst [.int hn, .int 61]) hq
    have hq2 : upd H1 q (.lst [.int hn, .int 61]) q = some (.lst [.int hn, .int 61]) := upd_same
    have pot2 := pot1.same s2
    have qp : q ≠ p := fun z => by
      obtain ⟨_, _, _, e, _⟩ := pot1
      rw [← z, hq] at e
      cases e
    generalize upd H1 q (.lst [.int hn, .int 61]) = H2 at s2 hq2 pot2
    refine ⟨_, rfl, p, 2, _, rfl, by decide, by decide, pot2, by omega, fun H3 u b3 pot3 u0 u1 => ?_⟩
    obtain ⟨m, em, hm1, hm2⟩ : ∃ m : Nat, [V.int hn, V.int 61][u.toNat]? = some (.int (m : Int)) ∧ hn ≤ m ∧ m ≤ 61 := by
      have : u = 0 ∨ u = 1 := by omega
      rcases this with e | e
      · exact ⟨hm, by rw [e, ehm]; rfl, by omega, by omega⟩
      · exact ⟨61, by rw [e]; rfl, by omega, by omega⟩
    obtain ⟨n1, en1⟩ : ∃ n : Nat, 1 + v = (n : Int) := ⟨(1 + v).toNat, by omega⟩
    refine ⟨q, _, u, _, rfl, rfl, SqL.of (b3 _ _ qp hq2), at_of (j := u.toNat) em (by omega), p, n1, m, _, by show [V.ref p, V.int (1 + v), V.int (m : Int)] = _; rw [en1], by omega, by omega, pot3, by omega, fun H4 l1 hs b4 pot4 l1n hl1 lhs ndh bdh => ?_⟩
    have b04 : But p H H4 := ((b1.trans (But.of s2)).trans b3).trans b4
    have l1p : l1 ≠ p := fun z => by
      obtain ⟨_, _, _, e, _⟩ := pot3
      rw [← z, l1n] at e
      cases e
    refine ⟨_, _, rfl, rfl, powW_of (a := 4) (by decide) (by decide) (by decide) (by decide), _, _, rfl, rfl, by show 3 ≤ sizeLine; decide, fun q5 hq5 => ?_⟩
    have s5 := same_new (o := .lst [.int 0, .int 0, .int ((10 : Int) ^ (6 : Int).toNat - 6)]) hq5
    have hq6 : upd H4 q5 (.lst [.int 0, .int 0, .int ((10 : Int) ^ (6 : Int).toNat - 6)]) q5 = some (.lst [.int 0, .int 0, .int 999994]) := upd_same
    have pot5 := pot4.same s5
    have q5p : q5 ≠ p := fun z => by
      obtain ⟨_, _, _, e, _⟩ := pot4
      rw [← z, hq5] at e
      cases e
    generalize upd H4 q5 (.lst [.int 0, .int 0, .int ((10 : Int) ^ (6 : Int).toNat - 6)]) = H5 at s5 hq6 pot5
    refine ⟨_, rfl, p, 3, _, rfl, by decide, by decide, pot5, by omega, fun H6 u6 b6 pot6 u60 u61 => ?_⟩
    obtain ⟨by_, eby, hb0, hb1⟩ : ∃ b : Int, [V.int 0, V.int 0, V.int 999994][u6.toNat]? = some (.int b) ∧ 0 ≤ b ∧ b ≤ 999994 := by
      have : u6 = 0 ∨ u6 = 1 ∨ u6 = 2 := by omega
      rcases this with e | e | e
      · exact ⟨0, by rw [e]; rfl, by omega, by omega⟩
      · exact ⟨0, by rw [e]; rfl, by omega, by omega⟩
      · exact ⟨999994, by rw [e]; rfl, by omega, by omega⟩
    refine ⟨q5, _, u6, _, rfl, rfl, SqL.of (b6 _ _ q5p hq6), at_of (j := u6.toNat) eby (by omega), ?_⟩
    have hl6 := b6 _ _ l1p (s5 _ _ hl1)
    have b06 : But p H H6 := (b04.trans (But.of s5)).trans b6
    refine ⟨_, rfl, _, rfl, _, rfl, _, rfl, p, pg, _, rfl, by omega, by omega, pot6, by omega, fun H7 u7 b7 pot7 u70 u71 => ⟨_, _, rfl, rfl, ?_⟩⟩
    obtain ⟨n2, en2⟩ : ∃ n : Nat, 1 + u7 = (n : Int) := ⟨(1 + u7).toNat, by omega⟩
    refine ⟨p, n2, 7, _, by show [V.ref p, V.int (1 + u7), V.int 7] = _; rw [en2]; rfl, by omega, by omega, pot7, by omega, fun H8 l0 ps b8 pot8 l0n hl0 lps ndp bdp => ?_⟩
    have hl8 := b8 _ _ l1p (b7 _ _ l1p hl6)
    have b08 : But p H H8 := (b06.trans b7).trans b8
    refine ⟨l0, rfl, ⟨_, SqL.of hl0⟩, fun D hD => ?_⟩
    have s9 := same_new (o := .lst []) hD
    refine RU.out_it (walk_list (xs := ps.map V.int)) (fun i H' => Same H8 H' ∧ H' D = some (.lst ((((ps.take i).map fun z => by_ + z)).map V.int))) ⟨s9, upd_same⟩ (fun i H' _ z => SqL.of (z.1 _ _ hl0)) ?_ ?_
    · rintro i y H3 H4 hi ⟨s4, hD4⟩ ⟨rfl, hy⟩
      obtain ⟨r, hr', rfl⟩ := map_at hy
      have et : (ps.take (i + 1)).map (fun z => by_ + z) = (ps.take i).map (fun z => by_ + z) ++ [by_ + r] := by
        rw [List.take_add_one, hr', List.map_append]
        rfl
      refine ⟨rfl, ?_⟩
      dsimp only [tYes]
      refine iteT ⟨_, rfl, _, rfl, _, _, rfl, rfl, _, hD4, by rw [List.length_map, List.length_map, List.length_take]; unfold sizeLine; omega, same_upd s4 hD, ?_⟩
      rw [upd_same, et, List.map_append]
      rfl
    · rintro H9 ⟨s9, hD9⟩
      rw [List.length_map, List.take_length] at hD9
      refine ⟨by show 2 ≤ sizeLine; decide, fun t ht => ?_⟩
      have st := same_new (o := .tup [.ref l1, .ref D]) ht
      have l1D : l1 ≠ D := fun z => by rw [z, hD] at hl8; cases hl8
      have Dp : D ≠ p := fun z => by
        obtain ⟨_, _, _, e, _⟩ := pot8
        rw [← z, hD] at e
        cases e
      refine kq _ t l1 D hs (ps.map fun z => by_ + z) ((b08.trans (But.of s9)).trans (But.of st)) (((pot8.same s9).same st).le (by omega)) upd_same (but_none (((b1.trans (But.of s2)).trans b3)) l1p l1n) (but_none b08 Dp hD) (st _ _ (s9 _ _ hl8)) (st _ _ hD9) l1D ndh ?_ (by omega) (by rw [List.length_map]; omega) (fun z => by have := congrArg List.length z; rw [List.length_map] at this; simp at this; rw [this] at lps; simp at lps; omega) (fun z => by rw [z] at lhs; simp at lhs; omega) (fun z hz => by have := bdh z hz; omega) fun z hz => ?_
      · exact List.nodup_iff_pairwise_ne.mpr (List.pairwise_map.mpr ((List.nodup_iff_pairwise_ne.mp ndp).imp fun h e => h (by omega)))
      · obtain ⟨y, hy, rfl⟩ := List.mem_map.mp hz
        have := bdp y hy
        omega
end
end K37

namespace K37
open PySem PySem.Spec PyProof.Rows L2 RZ HX TR RP AL
theorem Out.but {p : Addr} {H H' : Hp} (b : But p H H') : Out [p] H H' := fun c u n e => b c u (fun z => n (by rw [z]; exact List.mem_cons_self ..)) e
section
variable {P : Program} {w : World} {K : PySem.W.Frag} {mg : Str → Option Value} {base : Heap}
def sp_law_move : Sp := fun vs H Q _ => ∃ (p st ha pa : Addr) (G : List Addr) (A B : Int → List HB) (W : Int → Option Int) (PP HH : List Int) (rate C : Int), vs = [.ref p, .ref st, .ref ha, .ref pa, .int rate] ∧ St H st G A B PP ∧ Okk PP HH A B W ∧ H ha = some (.lst (HH.map V.int)) ∧ H pa = some (.lst (PP.map V.int)) ∧ PotOk H p C ∧ C < 2 ^ 39 ∧ p ∉ G ∧ ha ≠ p ∧ pa ≠ p ∧ PP ≠ [] ∧ 2 ≤ rate ∧ rate ≤ 60 ∧
  (∀ H' : Hp, But p H H' → PotOk H' p (C + 4) → Q .non H') ∧
  ∀ (H' : Hp) (t : Addr) (hand page : Int) (l lone : Bool), But p H H' → PotOk H' p (C + 4) → H' t = some (.tup [.str (if l = true then "let" else "take"), .int hand, .int page, .bl lone]) → hand ∈ HH → page ∈ PP → W hand = none → (l = true ↔ hand ∈ (A page).map (·.1)) → Q (.ref t) H'
theorem ok_law_move (T : TX K mg) : FnOk P w K mg base CX0 2 (He.ga K "_law_move") T.fd_law_move ["pot", "state", "hands", "pages", "rate"] sp_law_move := by
  have G_law_take : FnOk P w K mg base CX0 1 (He.ga K "_law_take") T.fd_law_take ["pot", "many"] sp_law_take := ok_law_take T
  have b_law_take := b_law_take T
  have G_law_awaits : FnOk P w K mg base CX0 1 (He.ga K "_law_awaits") T.fd_law_awaits ["state", "hand"] sp_law_awaits := ok_law_awaits T
  have b_law_awaits := b_law_awaits T
  have G_law_grips : FnOk P w K mg base CX0 1 (He.ga K "_law_grips") T.fd_law_grips ["state", "hand", "page"] sp_law_grips := ok_law_grips T
  have b_law_grips := b_law_grips T
  refine T.F_law_move.ok sc_law_move (fun vs H Q E h => ?_) (fun cdv A outer st H vs Q E hr h => ?_)
  · obtain ⟨p, sa, ha, pa, G, A, B, W, PP, HH, rate, C, rfl, _⟩ := h
    rfl
  · obtain ⟨p, sa, ha, pa, G, LA, LB, LW, PP, HH, rate, C, rfl, hst, o, hha, hpa, hpot, hC, pG, nhp, npp, nP, r0, r1, kn, kt⟩ := h
    have hhl := o.hl
    have hpl := o.pl
    have st_out : ∀ {H' : Hp}, But p H H' → St H' sa G LA LB PP := fun {H'} b => by
      obtain ⟨hd, ln, es, fs, x⟩ := hst
      exact ⟨hd, ln, es, fs, x.out (Out.but b) (Keep.but b fun u e => by
        obtain ⟨_, _, _, z, _⟩ := hpot
        rw [z] at e
        cases e
        rfl) fun y hy z => pG (by rw [← List.mem_singleton.mp z]; exact hy)⟩
    refine ⟨_, PSs.nox (pss_cons (ps_setLc (i := 6) (own := [("hand", 5)]) (g := gName 5) (tt := _) rfl sc_law_move.nd rfl rfl (sw_true rfl rfl rfl (by decide +kernel)) (pi_list (pv 2)) (blkOk_by (own := [("hand", 5)]) (N := ["pot", "state", "hands", "pages", "rate", "hand", "free", "own", "others", "page"]) (sc := defScope s_law_move) (by decide +kernel)) (fun _ _ _ _ _ => (pg_name (i := 5) sc_law_move.nd rfl (Or.inl rfl))) (fun _ _ _ _ _ => pts_one (pt_cmpR op_isN (pe_call G_law_awaits (hr.mono (by first | decide | omega)) rfl T.g_law_awaits T.F_law_awaits.kp b_law_awaits .nil pass0 (pa_cons (pv 1) (pa_cons (pv 5) pa_nil))) pe_non (nomark _))) (fun _ _ _ _ _ => (pv 5)))
 (pss_cons (ps_if (pt_cmpR (op_eqD hr.units) (pv 6) (pe_lst pa_nil) (nomark _))
 (pss_one (ps_ret pe_non))
 pss_nil)
 (pss_cons (ps_set (i := 5) sc_law_move.nd rfl (Or.inr rfl) (pe_ix ix_list (pv 6) (pe_call G_law_take (hr.mono (by first | decide | omega)) rfl T.g_law_take T.F_law_take.kp b_law_take .nil pass0 (pa_cons (pv 0) (pa_cons (pe_callB call_len_seq rfl T.n_len PySem.boot_len (pa_cons (pv 6) pa_nil)) pa_nil))) (fun _ _ => rfl)))
 (pss_cons (ps_set (i := 7) sc_law_move.nd rfl (Or.inr rfl) (pe_lc (own := [("page", 9)]) (g := gName 9) (tt := _) rfl sc_law_move.nd (pi_list (pv 3)) (blkOk_by (own := [("page", 9)]) (N := ["pot", "state", "hands", "pages", "rate", "hand", "free", "own", "others", "page"]) (sc := defScope s_law_move) (by decide +kernel)) (fun _ _ _ _ _ => (pg_name (i := 9) sc_law_move.nd rfl (Or.inl rfl))) (fun _ _ _ _ _ => pts_one (pt_val (pe_call G_law_grips (hr.mono (by first | decide | omega)) rfl T.g_law_grips T.F_law_grips.kp b_law_grips .nil pass0 (pa_cons (pv 1) (pa_cons (pv 5) (pa_cons (pv 9) pa_nil)))))) (fun _ _ _ _ _ => (pv 9))))
 (pss_cons (ps_setLc (i := 8) (own := [("page", 9)]) (g := gName 9) (tt := _) rfl sc_law_move.nd rfl rfl (sw_true rfl rfl rfl (by decide +kernel)) (pi_list (pv 3)) (blkOk_by (own := [("page", 9)]) (N := ["pot", "state", "hands", "pages", "rate", "hand", "free", "own", "others", "page"]) (sc := defScope s_law_move) (by decide +kernel)) (fun _ _ _ _ _ => (pg_name (i := 9) sc_law_move.nd rfl (Or.inl rfl))) (fun _ _ _ _ _ => pts_one (pt_cmpR (EQT.notInK K) (pv 9) (pv 7) rfl)) (fun _ _ _ _ _ => (pv 9)))
 (Evl.pss_cut (ps_if (PW.pt (pw_and (pt_cmpR (op_neD hr.units) (pv 7) (pe_lst pa_nil) (nomark _)) (pw_and1 (PW.pt (pw_or (pt_cmpR (op_eqD hr.units) (pv 8) (pe_lst pa_nil) (nomark _)) (pw_or1 (pt_cmpR op_eq (pe_call G_law_take (hr.mono (by first | decide | omega)) rfl T.g_law_take T.F_law_take.kp b_law_take .nil pass0 (pa_cons (pv 0) (pa_cons (pv 4) pa_nil))) pe_int (nomark _))))))))
 (pss_one (ps_ret (pe_tup (pa_cons pe_str (pa_cons (pv 5) (pa_cons (pe_ix ix_list (pv 7) (pe_call G_law_take (hr.mono (by first | decide | omega)) rfl T.g_law_take T.F_law_take.kp b_law_take .nil pass0 (pa_cons (pv 0) (pa_cons (pe_callB call_len_seq rfl T.n_len PySem.boot_len (pa_cons (pv 7) pa_nil)) pa_nil))) (fun _ _ => rfl)) (pa_cons pe_bl pa_nil)))))))
 pss_nil)
 (pss_one (ps_ret (pe_tup (pa_cons pe_str (pa_cons (pv 5) (pa_cons (pe_ix ix_list (pv 8) (pe_call G_law_take (hr.mono (by first | decide | omega)) rfl T.g_law_take T.F_law_take.kp b_law_take .nil pass0 (pa_cons (pv 0) (pa_cons (pe_callB call_len_seq rfl T.n_len PySem.boot_len (pa_cons (pv 8) pa_nil)) pa_nil))) (fun _ _ => rfl)) (pa_cons (pe_cmpR op_eq (pe_call G_law_take (hr.mono (by first | decide | omega)) rfl T.g_law_take T.F_law_take.kp b_law_take .nil pass0 (pa_cons (pv 0) (pa_cons pe_int pa_nil))) pe_int (nomark _)) pa_nil))))))))))))), ?_⟩
    refine ⟨_, rfl, ha, rfl, ⟨_, SqL.of hha⟩, fun D hD => ?_⟩
    have s1 := same_new (o := .lst []) hD
    refine RU.out_it (walk_list (xs := HH.map V.int)) (fun i H' => Same H H' ∧ H' D = some (.lst (((HH.take i).filter fun h => (LW h).isNone).map V.int))) ⟨s1, upd_same⟩ (fun i H' _ z => SqL.of (z.1 _ _ hha)) ?_ ?_
    · rintro i y H3 H4 hi ⟨s4, hD4⟩ ⟨rfl, hy⟩
      obtain ⟨h, hh, rfl⟩ := map_at hy
      have et : ((HH.take (i + 1)).filter fun h => (LW h).isNone) = ((HH.take i).filter fun h => (LW h).isNone) ++ [h].filter fun h => (LW h).isNone := by
        rw [List.take_add_one, hh, List.filter_append]
        rfl
      have small : ((HH.take i).filter fun h => (LW h).isNone).length ≤ 100 := by
        have h1 := List.length_filter_le (fun h => (LW h).isNone) (HH.take i)
        rw [List.length_take] at h1
        omega
      refine ⟨rfl, _, rfl, _, rfl, sa, G, LA, LB, PP, h, LW h, rfl, st_out (But.of s4), hpl, o.bl, fun p => o.ww h p, fun H5 s5 => ?_⟩
      refine ⟨rfl, _, rfl, ?_⟩
      cases hw : LW h with
      | none =>
        refine iteT ⟨_, rfl, _, s5 _ _ hD4, by rw [List.length_map]; unfold sizeLine; omega, same_upd (s4.trans s5) hD, ?_⟩
        rw [upd_same, et, List.filter_cons, if_pos (by rw [hw]; rfl), List.map_append]
        rfl
      | some z =>
        refine iteF ⟨s4.trans s5, ?_⟩
        rw [s5 _ _ hD4, et, List.filter_cons, if_neg (by rw [hw]; exact Bool.false_ne_true)]
        simp
    · rintro H1 ⟨s1, hD1⟩
      rw [List.length_map, List.take_length] at hD1
      have frm : ∀ h, h ∈ HH.filter (fun h => (LW h).isNone) → h ∈ HH ∧ LW h = none := fun h m => by
        obtain ⟨h1, h2⟩ := List.mem_filter.mp m
        exact ⟨h1, Option.isNone_iff_eq_none.mp h2⟩
      have fl : (HH.filter fun h => (LW h).isNone).length ≤ 100 := Nat.le_trans (List.length_filter_le _ _) hhl
      generalize HH.filter (fun h => (LW h).isNone) = FR at frm fl hD1
      refine ⟨_, rfl, Nat.zero_le _, fun q2 hq2 => ?_⟩
      have s2 := same_new (o := .lst []) hq2
      have hD2 := s2 _ _ hD1
      have hq3 : upd H1 q2 (.lst []) q2 = some (.lst []) := upd_same
      have s12 := s1.trans s2
      generalize upd H1 q2 (.lst []) = H2 at s2 hD2 hq3 s12
      refine ⟨.list (FR.map PyData.int), .list [], .lst (SqL.of hD2) (dpa_ints _), .lst (SqL.of hq3) .nil, shaped_ints _, by decide, _, rfl, ?_⟩
      rw [eqv_nil0, map_empty]
      cases hFR : FR with
      | nil => exact iteT (kn _ (But.of s12) ((hpot.same s12).le (by omega)))
      | cons f0 fr =>
        refine iteF ?_
        have lf : 0 < FR.length := by rw [hFR]; exact Nat.succ_pos _
        clear hFR
        have Dp : D ≠ p := fun z => by
          obtain ⟨_, _, _, e, _⟩ := hpot
          rw [← z, hD] at e
          cases e
        have pot2 := hpot.same s12
        have hDk : ∀ {H' : Hp}, But p H2 H' → H' D = some (.lst (FR.map V.int)) := fun b => b _ _ Dp hD2
        refine ⟨_, rfl, _, rfl, _, rfl, D, _, rfl, .inl (SqL.of hD2), p, _, _, rfl, by rw [List.length_map]; omega, by rw [List.length_map]; omega, pot2, by omega, fun H3 v b3 pot3 v0 v1 => ?_⟩
        rw [List.length_map] at v1
        have hv : v.toNat < FR.length := by omega
        have ehd : (FR.map V.int)[v.toNat]? = some (.int FR[v.toNat]) := by rw [List.getElem?_map, List.getElem?_eq_getElem hv]; rfl
        refine ⟨D, _, v, _, rfl, rfl, SqL.of (hDk b3), at_of (j := v.toNat) ehd (by omega), ?_⟩
        obtain ⟨hH, hW⟩ := frm _ (List.getElem_mem hv)
        generalize FR[v.toNat] = hand at hH hW
        have b03 : But p H H3 := (But.of s12).trans b3
        have hpa3 : H3 pa = some (.lst (PP.map V.int)) := b03 _ _ npp hpa
        refine ⟨_, rfl, pa, rfl, ⟨_, SqL.of hpa3⟩, fun D2 hD2' => ?_⟩
        have s4 := same_new (o := .lst []) hD2'
        refine RU.out_it (walk_list (xs := PP.map V.int)) (fun i H' => Same H3 H' ∧ H' D2 = some (.lst (((PP.take i).filter fun q => decide (hand ∈ (LA q).map (·.1))).map V.int))) ⟨s4, upd_same⟩ (fun i H' _ z => SqL.of (z.1 _ _ hpa3)) ?_ ?_
        · rintro i y H4 H5 hi ⟨s5, hD5⟩ ⟨rfl, hy⟩
          obtain ⟨q, hq, rfl⟩ := map_at hy
          have et : ((PP.take (i + 1)).filter fun q => decide (hand ∈ (LA q).map (·.1))) = ((PP.take i).filter fun q => decide (hand ∈ (LA q).map (·.1))) ++ [q].filter fun q => decide (hand ∈ (LA q).map (·.1)) := by
            rw [List.take_add_one, hq, List.filter_append]
            rfl
          have small : ((PP.take i).filter fun q => decide (hand ∈ (LA q).map (·.1))).length ≤ 100 := by
            have h1 := List.length_filter_le (fun q => decide (hand ∈ (LA q).map (·.1))) (PP.take i)
            rw [List.length_take] at h1
            omega
          refine ⟨rfl, _, rfl, _, rfl, _, rfl, sa, G, LA, LB, PP, hand, q, rfl, st_out (b03.trans (But.of s5)), o.al, fun H6 s6 => ?_⟩
          refine ⟨_, rfl, ?_⟩
          by_cases c : hand ∈ (LA q).map (·.1)
          · rw [decide_eq_true c]
            refine iteT ⟨_, rfl, _, s6 _ _ hD5, by rw [List.length_map]; unfold sizeLine; omega, same_upd (s5.trans s6) hD2', ?_⟩
            rw [upd_same, et, List.filter_cons, if_pos (decide_eq_true c), List.map_append]
            rfl
          · rw [decide_eq_false c]
            refine iteF ⟨s5.trans s6, ?_⟩
            rw [s6 _ _ hD5, et, List.filter_cons, if_neg (by rw [decide_eq_false c]; exact Bool.false_ne_true)]
            simp
        · rintro H4 ⟨s4, hD4⟩
          rw [List.length_map, List.take_length] at hD4
          obtain ⟨OW, eOW⟩ : ∃ OW, OW = PP.filter fun q => decide (hand ∈ (LA q).map (·.1)) := ⟨_, rfl⟩
          rw [← eOW] at hD4
          have ow : ∀ q, q ∈ OW ↔ q ∈ PP ∧ hand ∈ (LA q).map (·.1) := fun q => by rw [eOW, List.mem_filter, decide_eq_true_eq]
          have lo : OW.length ≤ 100 := by rw [eOW]; exact Nat.le_trans (List.length_filter_le _ _) hpl
          clear eOW
          have b04 := b03.trans (But.of s4)
          have hpa4 := s4 _ _ hpa3
          have pot4 := pot3.same s4
          refine ⟨_, rfl, pa, rfl, ⟨_, SqL.of hpa4⟩, fun D3 hD3 => ?_⟩
          have s5 := same_new (o := .lst []) hD3
          refine RU.out_it (walk_list (xs := PP.map V.int)) (fun i H' => Same H4 H' ∧ H' D3 = some (.lst (((PP.take i).filter fun q => !decide (q ∈ OW)).map V.int))) ⟨s5, upd_same⟩ (fun i H' _ z => SqL.of (z.1 _ _ hpa4)) ?_ ?_
          · rintro i y H5 H6 hi ⟨s6, hD6⟩ ⟨rfl, hy⟩
            obtain ⟨q, hq, rfl⟩ := map_at hy
            have et : ((PP.take (i + 1)).filter fun q => !decide (q ∈ OW)) = ((PP.take i).filter fun q => !decide (q ∈ OW)) ++ [q].filter fun q => !decide (q ∈ OW) := by
              rw [List.take_add_one, hq, List.filter_append]
              rfl
            have small : ((PP.take i).filter fun q => !decide (q ∈ OW)).length ≤ 100 := by
              have h1 := List.length_filter_le (fun q => !decide (q ∈ OW)) (PP.take i)
              rw [List.length_take] at h1
              omega
            refine ⟨rfl, _, rfl, _, rfl, D2, _, rfl, .inl (SqL.of (s6 _ _ hD4)), rfl, flat_ints _, ?_⟩
            rw [show (if true = true then !inV (V.int q) (OW.map V.int) else inV (V.int q) (OW.map V.int)) = !decide (q ∈ OW) from congrArg (! ·) inV_ints]
            refine ⟨_, rfl, ?_⟩
            by_cases c : q ∈ OW
            · rw [decide_eq_true c]
              refine iteF ⟨s6, ?_⟩
              rw [hD6, et, List.filter_cons, if_neg (by rw [decide_eq_true c]; exact Bool.false_ne_true)]
              simp
            · rw [decide_eq_false c]
              refine iteT ⟨_, rfl, _, hD6, by rw [List.length_map]; unfold sizeLine; omega, same_upd s6 hD3, ?_⟩
              rw [upd_same, et, List.filter_cons, if_pos (by rw [decide_eq_false c]; rfl), List.map_append]
              rfl
          · rintro H5 ⟨s5, hD5⟩
            rw [List.length_map, List.take_length] at hD5
            obtain ⟨OT, eOT⟩ : ∃ OT, OT = PP.filter fun q => !decide (q ∈ OW) := ⟨_, rfl⟩
            rw [← eOT] at hD5
            have ot : ∀ q, q ∈ OT ↔ q ∈ PP ∧ q ∉ OW := fun q => by rw [eOT, List.mem_filter, Bool.not_eq_true', decide_eq_false_iff_not]
            have lt : OT.length ≤ 100 := by rw [eOT]; exact Nat.le_trans (List.length_filter_le _ _) hpl
            clear eOT
            have nn : ∀ {y : Addr} {G1 : Hp}, PotOk G1 p (C + 1) → G1 y = none → y ≠ p := fun pt n z => by
              obtain ⟨_, _, _, e, _⟩ := pt
              rw [← z, n] at e
              cases e
            have D2p := nn pot3 hD2'
            have D3p := nn pot4 hD3
            have b05 := b04.trans (But.of s5)
            have pot5 := pot4.same s5
            have hD45 := s5 _ _ hD4
            refine ⟨fun σ' H' => σ' = [some (.ref p), some (.ref sa), some (.ref ha), some (.ref pa), some (.int rate), some (.int hand), some (.ref D), some (.ref D2), some (.ref D3), none] ∧ But p H H' ∧ PotOk H' p (C + 2) ∧ H' D3 = some (.lst (OT.map V.int)) ∧ OT ≠ [], ?_, ?_⟩
            · refine ⟨_, rfl, Nat.zero_le _, fun q6 hq6 => ?_⟩
              have s6 := same_new (o := .lst []) hq6
              have hq7 : upd H5 q6 (.lst []) q6 = some (.lst []) := upd_same
              have b06 := b05.trans (But.of s6)
              have pot6 := pot5.same s6
              have hD6 := s6 _ _ hD45
              have hD63 := s6 _ _ hD5
              generalize upd H5 q6 (.lst []) = H6 at hq7 b06 pot6 hD6 hD63
              refine ⟨.list (OW.map PyData.int), .list [], .lst (SqL.of hD6) (dpa_ints _), .lst (SqL.of hq7) .nil, shaped_ints _, by decide, _, rfl, ?_⟩
              rw [eqv_nil0, map_empty]
              cases hOW : OW with
              | nil =>
                refine iteF (iteF ⟨rfl, b06, pot6.le (by omega), hD63, fun z => ?_⟩)
                obtain ⟨q0, hq0⟩ := List.exists_mem_of_ne_nil _ nP
                have := (ot q0).mpr ⟨hq0, by rw [hOW]; exact List.not_mem_nil⟩
                rw [z] at this
                cases this
              | cons o0 orr =>
                have lO : 0 < OW.length := by rw [hOW]; exact Nat.succ_pos _
                clear hOW
                refine iteT ⟨_, rfl, Nat.zero_le _, fun q7 hq8 => ?_⟩
                have s7 := same_new (o := .lst []) hq8
                have hq9 : upd H6 q7 (.lst []) q7 = some (.lst []) := upd_same
                have b07 := b06.trans (But.of s7)
                have pot7 := pot6.same s7
                have hD7 := s7 _ _ hD6
                have hD73 := s7 _ _ hD63
                generalize upd H6 q7 (.lst []) = H7 at hq9 b07 pot7 hD7 hD73
                refine ⟨.list (OT.map PyData.int), .list [], .lst (SqL.of hD73) (dpa_ints _), .lst (SqL.of hq9) .nil, shaped_ints _, by decide, _, rfl, ?_⟩
                rw [eqv_nil0, map_empty]
                cases hOT : OT with
                | nil =>
                  refine iteT ?_
                  refine iteT ?_
                  refine ⟨_, rfl, _, rfl, _, rfl, _, rfl, D2, _, rfl, .inl (SqL.of hD7), p, _, _, rfl, by rw [List.length_map]; omega, by rw [List.length_map]; omega, pot7, by omega, fun H9 v9 b9 pot9 v90 v91 => ?_⟩
                  rw [List.length_map] at v91
                  have hv9 : v9.toNat < OW.length := by omega
                  have e9 : (OW.map V.int)[v9.toNat]? = some (.int OW[v9.toNat]) := by rw [List.getElem?_map, List.getElem?_eq_getElem hv9]; rfl
                  refine ⟨D2, _, v9, _, rfl, rfl, SqL.of (b9 _ _ D2p hD7), at_of (j := v9.toNat) e9 (by omega), by show 4 ≤ sizeLine; decide, fun t ht => ?_⟩
                  obtain ⟨w1, w2⟩ := (ow _).mp (List.getElem_mem hv9)
                  have st9 := same_new (o := .tup [.str "let", .int hand, .int OW[v9.toNat], .bl false]) ht
                  exact kt _ t hand OW[v9.toNat] true false ((b07.trans b9).trans (But.of st9)) ((pot9.same st9).le (by omega)) upd_same hH w1 hW ⟨fun _ => w2, fun _ => rfl⟩
                | cons t0 tr =>
                  refine iteF ?_
                  refine ⟨_, rfl, _, rfl, p, rate, _, rfl, by omega, by omega, pot7, by omega, fun H8 v8 b8 pot8 v80 v81 => ⟨rfl, _, rfl, ?_⟩⟩
                  have hD8 := b8 _ _ D2p hD7
                  have b08 := b07.trans b8
                  by_cases c : v8 = 0
                  · have e1 : decide (V.int v8 = V.int 0) = true := by rw [c]; rfl
                    rw [e1]
                    refine iteT ?_
                    refine ⟨_, rfl, _, rfl, _, rfl, _, rfl, D2, _, rfl, .inl (SqL.of hD8), p, _, _, rfl, by rw [List.length_map]; omega, by rw [List.length_map]; omega, pot8, by omega, fun H9 v9 b9 pot9 v90 v91 => ?_⟩
                    rw [List.length_map] at v91
                    have hv9 : v9.toNat < OW.length := by omega
                    have e9 : (OW.map V.int)[v9.toNat]? = some (.int OW[v9.toNat]) := by rw [List.getElem?_map, List.getElem?_eq_getElem hv9]; rfl
                    refine ⟨D2, _, v9, _, rfl, rfl, SqL.of (b9 _ _ D2p hD8), at_of (j := v9.toNat) e9 (by omega), by show 4 ≤ sizeLine; decide, fun t ht => ?_⟩
                    obtain ⟨w1, w2⟩ := (ow _).mp (List.getElem_mem hv9)
                    have st9 := same_new (o := .tup [.str "let", .int hand, .int OW[v9.toNat], .bl false]) ht
                    exact kt _ t hand OW[v9.toNat] true false ((b08.trans b9).trans (But.of st9)) ((pot9.same st9).le (by omega)) upd_same hH w1 hW ⟨fun _ => w2, fun _ => rfl⟩
                  · have e1 : decide (V.int v8 = V.int 0) = false := decide_eq_false (fun z => c (by injection z))
                    rw [e1]
                    refine iteF ?_
                    exact ⟨rfl, b08, pot8.le (by omega), by rw [← hOT]; exact b8 _ _ D3p hD73, List.cons_ne_nil _ _⟩
            · rintro _ H6 ⟨rfl, b6, pot6, hD6, nT⟩
              have lO : 0 < OT.length := List.length_pos_iff.mpr nT
              refine ⟨_, rfl, _, rfl, _, rfl, _, rfl, D3, _, rfl, .inl (SqL.of hD6), p, _, _, rfl, by rw [List.length_map]; omega, by rw [List.length_map]; omega, pot6, by omega, fun H9 v9 b9 pot9 v90 v91 => ?_⟩
              rw [List.length_map] at v91
              have hv9 : v9.toNat < OT.length := by omega
              have e9 : (OT.map V.int)[v9.toNat]? = some (.int OT[v9.toNat]) := by rw [List.getElem?_map, List.getElem?_eq_getElem hv9]; rfl
              refine ⟨D3, _, v9, _, rfl, rfl, SqL.of (b9 _ _ D3p hD6), at_of (j := v9.toNat) e9 (by omega), ?_⟩
              obtain ⟨w1, w2⟩ := (ot _).mp (List.getElem_mem hv9)
              refine ⟨_, rfl, p, 2, _, rfl, by decide, by decide, pot9, by omega, fun Ha va ba pota va0 va1 => ⟨rfl, by show 4 ≤ sizeLine; decide, fun t ht => ?_⟩⟩
              have sta := same_new (o := .tup [.str "take", .int hand, .int OT[v9.toNat], .bl (decide (V.int va = V.int 1))]) ht
              exact kt _ t hand OT[v9.toNat] false (decide (V.int va = V.int 1)) (((b6.trans b9).trans ba).trans (But.of sta)) ((pota.same sta).le (by omega)) upd_same hH w1 hW ⟨fun z => (by cases z), fun z => absurd ((ow _).mpr ⟨w1, z⟩) w2⟩
end
end K37

namespace K37
open PySem PySem.Spec PyProof.Rows L2 RZ HX TR RP AL
/-- latches and the law's own table that tell the same, on pages PP, by hands HH; R: where they stand -/
def Duo (K : PySem.W.Frag) (H : Hp) (s st : Addr) (R : List Addr) (A B : Int → List HB) (W : Int → Option Int) (PP HH : List Int) : Prop := ∃ F G, Lat K H s F A B W ∧ St H st G A B PP ∧ Okk PP HH A B W ∧ (∀ y ∈ F, y ∉ G) ∧ ∀ y, y ∈ R ↔ y ∈ F ∨ y ∈ G
theorem Lat.out {K : PySem.W.Frag} {H H' : Hp} {s : Addr} {F X : List Addr} {A B : Int → List HB} {W : Int → Option Int} (x : Lat K H s F A B W) (o : Out X H H') (k : Keep H H') (d : ∀ y ∈ F, y ∉ X) : Lat K H' s F A B W := by
  obtain ⟨dx, a, b, c, ds, ls, ws, x, n1, n2⟩ := x
  exact ⟨dx, a, b, c, ds, ls, ws, x.out o k d, n1, n2⟩
theorem Lat.reg {K : PySem.W.Frag} {H : Hp} {s : Addr} {F : List Addr} {A B : Int → List HB} {W : Int → Option Int} (x : Lat K H s F A B W) : Reg H F := by
  obtain ⟨dx, a, b, c, ds, ls, ws, x, n1, n2⟩ := x
  exact x.reg
theorem St.out {H H' : Hp} {st : Addr} {G X : List Addr} {A B : Int → List HB} {PP : List Int} (x : St H st G A B PP) (o : Out X H H') (k : Keep H H') (d : ∀ y ∈ G, y ∉ X) : St H' st G A B PP := by
  obtain ⟨hd, ln, es, fs, x⟩ := x
  exact ⟨hd, ln, es, fs, x.out o k d⟩
theorem St.reg {H : Hp} {st : Addr} {G : List Addr} {A B : Int → List HB} {PP : List Int} (x : St H st G A B PP) : Reg H G := by
  obtain ⟨hd, ln, es, fs, x⟩ := x
  exact x.reg
theorem Duo.reg {K : PySem.W.Frag} {H : Hp} {s st : Addr} {R : List Addr} {A B : Int → List HB} {W : Int → Option Int} {PP HH : List Int} (x : Duo K H s st R A B W PP HH) : Reg H R := fun y hy => by
  obtain ⟨F, G, x1, x2, o, d, e⟩ := x
  exact ((e y).mp hy).elim (x1.reg y) (x2.reg y)
theorem Duo.out {K : PySem.W.Frag} {H H' : Hp} {s st : Addr} {R X : List Addr} {A B : Int → List HB} {W : Int → Option Int} {PP HH : List Int} (x : Duo K H s st R A B W PP HH) (o : Out X H H') (k : Keep H H') (dj : ∀ y ∈ R, y ∉ X) : Duo K H' s st R A B W PP HH := by
  obtain ⟨F, G, x1, x2, ok, d, e⟩ := x
  exact ⟨F, G, x1.out o k fun y hy => dj y ((e y).mpr (.inl hy)), x2.out o k fun y hy => dj y ((e y).mpr (.inr hy)), ok, d, e⟩
theorem Duo.same {K : PySem.W.Frag} {H H' : Hp} {s st : Addr} {R : List Addr} {A B : Int → List HB} {W : Int → Option Int} {PP HH : List Int} (x : Duo K H s st R A B W PP HH) (sm : Same H H') : Duo K H' s st R A B W PP HH := x.out (X := []) (Out.of sm) (Keep.of sm) fun _ _ z => nomatch z
theorem reg_none {H : Hp} {G : List Addr} (r : Reg H G) {y : Addr} (h : H y = none) : y ∉ G := fun m => by
  obtain ⟨u, z, _⟩ := r y m
  rw [h] at z
  cases z
theorem out_keep {F : List Addr} {H H' : Hp} (o : Out F H H') (r : Reg H F) : Keep H H' := o.keep r
theorem sameD_rows (qs : List HB) (hl : qs.length ≤ 100000) : SameD 3 (.tuple (qs.map rowD)) := ⟨by rw [List.length_map]; exact hl, fun d hd => by
  obtain ⟨q, _, rfl⟩ := List.mem_map.mp hd
  refine ⟨by show 2 ≤ 100000; omega, fun d hd => ?_⟩
  rcases List.mem_cons.mp hd with rfl | hd
  · trivial
  · rw [List.mem_singleton.mp hd]
    trivial⟩
theorem rows_dp {K : PySem.W.Frag} {H : Hp} {t : Addr} {xs : List V} {qs : List HB} (h : RU.FzT H t xs) (p : Paired (HbAt H) xs qs) : Dp K H (.ref t) (.tuple (qs.map rowD)) := .tup (fz_sq h) (hbs_dp p)
theorem okk_ab {P HH : List Int} {A B : Int → List HB} {W : Int → Option Int} (o : Okk P HH A B W) (p : Int) : (A p).length + (B p).length ≤ 100 := by
  have nd : ((A p ++ B p).map (·.1)).Nodup := by
    rw [List.map_append]
    refine List.nodup_iff_pairwise_ne.mpr (List.pairwise_append.mpr ⟨List.nodup_iff_pairwise_ne.mp (o.na p), List.nodup_iff_pairwise_ne.mp (o.nb p), fun u hu v hv z => ?_⟩)
    obtain ⟨q, hq, rfl⟩ := List.mem_map.mp hu
    exact o.ab p q hq (by rw [z]; exact hv)
  have z := sub_len nd (ys := HH) fun x hx => by
    obtain ⟨q, hq, rfl⟩ := List.mem_map.mp hx
    exact (List.mem_append.mp hq).elim (o.ha p q) (o.hb p q)
  rw [List.length_map, List.length_append] at z
  have := o.hl
  omega
theorem dis_next {H H1 : Hp} {F G F' G' : List Addr} (r1 : Reg H G) (r2 : Reg H1 F') (dj : ∀ y ∈ F, y ∉ G) (hf : ∀ y ∈ F', y ∈ F ∨ H y = none) (hg : ∀ y ∈ G', y ∈ G ∨ H1 y = none) : ∀ y ∈ F', y ∉ G' := fun y h1 h2 => by
  rcases hg y h2 with h | h
  · rcases hf y h1 with k | k
    · exact dj y k h
    · exact reg_none r1 k h
  · exact reg_none r2 h h1
section
variable {P : Program} {w : World} {K : PySem.W.Frag} {mg : Str → Option Value} {base : Heap}
/-- what a move makes of them -/
def mvA (A B : Int → List HB) (l : Bool) (hand page : Int) (lone : Bool) : Int → List HB := if l = true then letA A B hand page else takeA A B hand page lone
def mvB (A B : Int → List HB) (l : Bool) (hand page : Int) (lone : Bool) : Int → List HB := if l = true then letB A B hand page else takeB A B hand page lone
def mvW (A B : Int → List HB) (W : Int → Option Int) (l : Bool) (hand page : Int) (lone : Bool) : Int → Option Int := if l = true then letW A B W hand page else takeW A B W hand page lone
def sp_law_done (K : PySem.W.Frag) : Sp := fun vs H Q _ => ∃ (s st t : Addr) (R : List Addr) (A B : Int → List HB) (W : Int → Option Int) (PP HH : List Int) (hand page : Int) (l lone : Bool), vs = [.ref s, .ref st, .ref t] ∧ Duo K H s st R A B W PP HH ∧ H t = some (.tup [.str (if l = true then "let" else "take"), .int hand, .int page, .bl lone]) ∧ hand ∈ HH ∧ page ∈ PP ∧ W hand = none ∧ (l = true ↔ hand ∈ (A page).map (·.1)) ∧
  ∀ (H' : Hp) (R' : List Addr), Out R H H' → (∀ y ∈ R', y ∈ R ∨ H y = none) → Duo K H' s st R' (mvA A B l hand page lone) (mvB A B l hand page lone) (mvW A B W l hand page lone) PP HH → Q (.bl true) H'
theorem ok_law_done (T : TX K mg) : FnOk P w K mg base CX0 6 (He.ga K "_law_done") T.fd_law_done ["latches", "state", "move"] (sp_law_done K) := by
  have G_law_same : FnOk P w K mg base CX0 4 (He.ga K "_law_same") T.fd_law_same ["found", "due"] (sp_law_same K 3) := ok_law_same T 3
  have b_law_same := b_law_same T
  have G_law_left : FnOk P w K mg base CX0 2 (He.ga K "_law_left") T.fd_law_left ["state", "hand", "page"] sp_law_left := ok_law_left T
  have b_law_left := b_law_left T
  have G_law_taken : FnOk P w K mg base CX0 2 (He.ga K "_law_taken") T.fd_law_taken ["state", "hand", "page", "lone"] sp_law_taken := ok_law_taken T
  have b_law_taken := b_law_taken T
  have G_Latches_let := ok_let (P := P) (w := w) (base := base) T
  have b_Latches_let := b_Latches_let T
  have G_Latches_take := ok_take (P := P) (w := w) (base := base) T
  obtain ⟨dt, vds_Latches_take, b_Latches_take⟩ := b_Latches_take T
  have kb_Latches_take := kb_Latches_take T
  refine T.F_law_done.ok sc_law_done (fun vs H Q E h => ?_) (fun cdv A outer st H vs Q E hr h => ?_)
  · obtain ⟨s, sa, t, R, A, B, W, PP, HH, hand, page, l, lone, rfl, _⟩ := h
    rfl
  · obtain ⟨s, sa, t, R, LA, LB, LW, PP, HH, hand, page, l, lone, rfl, ⟨F, G, xl, xs, o, dj, eR⟩, ht, hH, hP, hW, hl, kq⟩ := h
    refine ⟨_, PSs.nox (pss_cons (ps_asg (pv 2) (pg_tup rfl (pgs_cons (pg_name (i := 3) sc_law_done.nd rfl (Or.inl rfl)) (pgs_cons (pg_name (i := 4) sc_law_done.nd rfl (Or.inl rfl)) (pgs_cons (pg_name (i := 5) sc_law_done.nd rfl (Or.inl rfl)) (pgs_cons (pg_name (i := 6) sc_law_done.nd rfl (Or.inl rfl)) pgs_nil))))))
 (pss_cons (ps_if (pt_cmpR op_eq (pv 3) pe_str (nomark _))
 (pss_one (ps_ret (pe_call G_law_same (hr.mono (by first | decide | omega)) rfl T.g_law_same T.F_law_same.kp b_law_same .nil pass0 (pa_cons (pe_meth (pv 0) T.cl_Latches T.m_Latches_let G_Latches_let (hr.mono (by first | decide | omega)) b_Latches_let .nil pass0 (pa_cons (pv 4) (pa_cons (pv 5) pa_nil))) (pa_cons (pe_call G_law_left (hr.mono (by first | decide | omega)) rfl T.g_law_left T.F_law_left.kp b_law_left .nil pass0 (pa_cons (pv 1) (pa_cons (pv 4) (pa_cons (pv 5) pa_nil)))) pa_nil)))))
 pss_nil)
 (Evl.pss_cut (ps_if (pt_val (pv 6))
 (pss_one (ps_set (i := 7) sc_law_done.nd rfl (Or.inl rfl) (RP.pe_methN (pv 0) T.cl_Latches T.m_Latches_take G_Latches_take (hr.mono (by first | decide | omega)) kb_Latches_take pass0 (pa_cons (pv 4) (pa_cons (pv 5) pa_nil)) (pk_cons pe_bl pk_nil))))
 (pss_one (ps_if (pt_cmpR op_eq (pe_op op_mod (pv 4) pe_int) pe_int (nomark _))
 (pss_one (ps_set (i := 7) sc_law_done.nd rfl (Or.inl rfl) (RP.pe_methN (pv 0) T.cl_Latches T.m_Latches_take G_Latches_take (hr.mono (by first | decide | omega)) kb_Latches_take pass0 (pa_cons (pv 4) (pa_cons (pv 5) pa_nil)) (pk_cons pe_bl pk_nil))))
 (pss_one (ps_set (i := 7) sc_law_done.nd rfl (Or.inl rfl) (pe_meth (pv 0) T.cl_Latches T.m_Latches_take G_Latches_take (hr.mono (by first | decide | omega)) b_Latches_take vds_Latches_take pass0 (pa_cons (pv 4) (pa_cons (pv 5) pa_nil))))))))
 (pss_one (ps_ret (pe_call G_law_same (hr.mono (by first | decide | omega)) rfl T.g_law_same T.F_law_same.kp b_law_same .nil pass0 (pa_cons (pv 7) (pa_cons (pe_call G_law_taken (hr.mono (by first | decide | omega)) rfl T.g_law_taken T.F_law_taken.kp b_law_taken .nil pass0 (pa_cons (pv 1) (pa_cons (pv 4) (pa_cons (pv 5) (pa_cons (pv 6) pa_nil))))) pa_nil)))))))), ?_⟩
    refine ⟨_, rfl, t, _, rfl, SqT.of ht, rfl, ?_⟩
    refine ⟨_, _, rfl, _, _, rfl, _, _, rfl, _, _, rfl, rfl, ?_⟩
    refine ⟨_, rfl, rfl, ?_⟩
    have rg1 := xl.reg
    have rg2 := xs.reg
    have outR : ∀ {H1 H2 : Hp}, Out F H H1 → Out G H1 H2 → Out R H H2 := fun o1 o2 => (o1.mono fun y hy => (eR y).mpr (.inl hy)).trans (o2.mono fun y hy => (eR y).mpr (.inr hy))
    obtain ⟨dx, a, b, c, ds, ls, ws, x, n1, n2⟩ := id xl
    have djs : ∀ y ∈ G, y ∉ F := fun y h1 h2 => dj y h2 h1
    cases l with
    | true =>
      have hg := hl.mp rfl
      refine ⟨_, rfl, iteT ?_⟩
      refine ⟨_, rfl, s, dx, _, rfl, x.hs, rfl, _, rfl, _, rfl, s, F, LA, LB, LW, PP, HH, hand, page, rfl, xl, o, hH, hW, hg, fun H1 F1 g ys o1 f1 xl1 fz1 pr1 => ?_⟩
      have k1 := o1.keep rg1
      refine ⟨_, rfl, _, rfl, _, rfl, sa, G, LA, LB, PP, hand, page, rfl, xs.out o1 k1 djs, o.pl, o.al, o.bl, okk_ab o page, hP, hg, fun H2 G2 t2 ys2 o2 g2 st2 fz2 pr2 => ?_⟩
      have rgG := (xs.out o1 k1 djs).reg
      have k2 := o2.keep rgG
      have lq : (letP LA LB hand page).2.2.length ≤ 100 := by
        have e2 := (prom_spec (qs := LB page) (hs := lessH hand (LA page))).2
        have e3 := congrArg List.length e2
        rw [List.length_append] at e3
        have := o.bl page
        show (prom (lessH hand (LA page)) (LB page)).2.2.length ≤ 100
        omega
      refine ⟨.ref g, .ref t2, .tuple ((letP LA LB hand page).2.2.map rowD), rfl, sameD_rows _ (by omega), rows_dp (fz_keep k2 fz1) (paired_imp (fun _ _ r => HbAt.keep k2 r) pr1), rows_dp fz2 pr2, fun H3 s3 => ?_⟩
      have d2 := dis_next rg2 xl1.reg dj f1 g2
      refine kq H3 (F1 ++ G2) ((outR o1 o2).trans (Out.of s3)) (fun y hy => ?_) ⟨F1, G2, ?_, ?_, okk_let o hg, d2, fun y => List.mem_append⟩
      · rcases List.mem_append.mp hy with h | h
        · exact (f1 y h).imp (fun z => (eR y).mpr (.inl z)) id
        · rcases g2 y h with z | z
          · exact .inl ((eR y).mpr (.inr z))
          · exact (out_none o1 z).imp (fun z => (eR y).mpr (.inl z)) id
      · have d1 : ∀ y ∈ F1, y ∉ G := fun y h1 h2 => (f1 y h1).elim (fun z => dj y z h2) fun z => reg_none rg2 z h2
        exact (xl1.out o2 k2 d1).out (X := []) (Out.of s3) (Keep.of s3) fun _ _ z => nomatch z
      · exact st2.out (X := []) (Out.of s3) (Keep.of s3) fun _ _ z => nomatch z
    | false =>
      have hg : hand ∉ (LA page).map (·.1) := fun z => by have := hl.mpr z; cases this
      refine ⟨_, rfl, iteF ?_⟩
      refine ⟨fun σ' H' => ∃ F1, σ' = [some (.ref s), some (.ref sa), some (.ref t), some (.str "take"), some (.int hand), some (.int page), some (.bl lone), some (.bl (atOnce LA LB page lone))] ∧ Out F H H' ∧ (∀ y ∈ F1, y ∈ F ∨ H y = none) ∧ Lat K H' s F1 (takeA LA LB hand page lone) (takeB LA LB hand page lone) (takeW LA LB LW hand page lone), ?_, ?_⟩
      · refine ⟨_, rfl, _, rfl, ?_⟩
        cases lone with
        | true =>
          refine iteT ?_
          exact ⟨_, rfl, s, dx, _, rfl, x.hs, rfl, _, rfl, _, rfl, rfl, rfl, s, F, LA, LB, LW, PP, HH, hand, page, true, rfl, xl, o, hH, hP, hW, hg, fun H1 F1 o1 f1 xl1 => ⟨F1, rfl, o1, f1, xl1⟩⟩
        | false =>
          refine iteF ?_
          refine ⟨_, rfl, _, _, rfl, rfl, (show (0 : Int) < 2 by decide), rfl, _, rfl, ?_⟩
          cases (decide (V.int (hand % 2) = V.int 0)) with
          | true =>
            refine iteT ?_
            exact ⟨_, rfl, s, dx, _, rfl, x.hs, rfl, _, rfl, _, rfl, rfl, rfl, s, F, LA, LB, LW, PP, HH, hand, page, false, rfl, xl, o, hH, hP, hW, hg, fun H1 F1 o1 f1 xl1 => ⟨F1, rfl, o1, f1, xl1⟩⟩
          | false =>
            refine iteF ?_
            exact ⟨_, rfl, s, dx, _, rfl, x.hs, rfl, _, rfl, _, rfl, s, F, LA, LB, LW, PP, HH, hand, page, false, rfl, xl, o, hH, hP, hW, hg, fun H1 F1 o1 f1 xl1 => ⟨F1, rfl, o1, f1, xl1⟩⟩
      · rintro _ H1 ⟨F1, rfl, o1, f1, xl1⟩
        have k1 := o1.keep rg1
        refine ⟨_, rfl, _, rfl, _, rfl, _, rfl, _, rfl, sa, G, LA, LB, PP, hand, page, lone, rfl, xs.out o1 k1 djs, o.pl, o.al, o.bl, hP, fun H2 G2 o2 g2 st2 => ?_⟩
        have rgG := (xs.out o1 k1 djs).reg
        have k2 := o2.keep rgG
        refine ⟨_, _, .bool (atOnce LA LB page lone), rfl, trivial, .bl _, .bl _, fun H3 s3 => ?_⟩
        have d2 := dis_next rg2 xl1.reg dj f1 g2
        refine kq H3 (F1 ++ G2) ((outR o1 o2).trans (Out.of s3)) (fun y hy => ?_) ⟨F1, G2, ?_, ?_, okk_take o hH hP hW hg, d2, fun y => List.mem_append⟩
        · rcases List.mem_append.mp hy with h | h
          · exact (f1 y h).imp (fun z => (eR y).mpr (.inl z)) id
          · rcases g2 y h with z | z
            · exact .inl ((eR y).mpr (.inr z))
            · exact (out_none o1 z).imp (fun z => (eR y).mpr (.inl z)) id
        · have d1 : ∀ y ∈ F1, y ∉ G := fun y h1 h2 => (f1 y h1).elim (fun z => dj y z h2) fun z => reg_none rg2 z h2
          exact (xl1.out o2 k2 d1).out (X := []) (Out.of s3) (Keep.of s3) fun _ _ z => nomatch z
        · exact st2.out (X := []) (Out.of s3) (Keep.of s3) fun _ _ z => nomatch z
end
end K37

namespace K37
open PySem PySem.Spec PyProof.Rows L2 RZ HX TR RP AL
theorem ris_eq : ∀ {xs ys : List HB}, xs.Pairwise (fun e f => e.1 < f.1) → ys.Pairwise (fun e f => e.1 < f.1) → (∀ q, q ∈ xs ↔ q ∈ ys) → xs = ys
  | [], [], _, _, _ => rfl
  | [], y :: ys, _, _, h => absurd ((h y).mpr (List.mem_cons_self ..)) List.not_mem_nil
  | x :: xs, [], _, _, h => absurd ((h x).mp (List.mem_cons_self ..)) List.not_mem_nil
  | x :: xs, y :: ys, hx, hy, h => by
    obtain ⟨x1, x2⟩ := List.pairwise_cons.mp hx
    obtain ⟨y1, y2⟩ := List.pairwise_cons.mp hy
    have e : x = y := by
      rcases List.mem_cons.mp ((h x).mp (List.mem_cons_self ..)) with e | m
      · exact e
      · rcases List.mem_cons.mp ((h y).mpr (List.mem_cons_self ..)) with e | n
        · exact e.symm
        · have := y1 x m
          have := x1 y n
          omega
    rw [e, ris_eq x2 y2 fun q => ?_]
    constructor
    · intro m
      rcases List.mem_cons.mp ((h q).mp (List.mem_cons_of_mem _ m)) with e2 | n
      · have := x1 q m
        rw [e2, e] at this
        omega
      · exact n
    · intro m
      rcases List.mem_cons.mp ((h q).mpr (List.mem_cons_of_mem _ m)) with e2 | n
      · have := y1 q m
        rw [e2, e] at this
        omega
      · exact n
theorem qu_ps {H : Hp} : ∀ {xs : List V} {qs : List HB}, Paired (HbAt H) xs qs → ∃ ps : List (Addr × Int × V), xs = ps.map (fun z => V.ref z.1) ∧ (∀ z ∈ ps, H z.1 = some (.tup [.int z.2.1, z.2.2])) ∧ qs.map (fun q => (q.1, V.bl q.2)) = ps.map (·.2)
  | _, _, .nil => ⟨[], rfl, (fun z hz => nomatch hz), rfl⟩
  | _, _, .cons (b := q) r rs => by
    obtain ⟨ps, h1, h2, h3⟩ := qu_ps rs
    obtain ⟨t, e, ht⟩ := r
    refine ⟨(t, q.1, .bl q.2) :: ps, by rw [h1, e]; rfl, fun z hz => ?_, by rw [List.map_cons, List.map_cons, h3]⟩
    rcases List.mem_cons.mp hz with rfl | hz
    · exact ht
    · exact h2 z hz
/-- what the hand holds of a page -/
def rowsOf (A : Int → List HB) (hand p : Int) : List HB := ((A p).filter fun q => decide (q.1 = hand)).map fun q => (p, q.2)
theorem rowsOf_mem {A : Int → List HB} {hand p : Int} {q : HB} : q ∈ rowsOf A hand p ↔ q.1 = p ∧ (hand, q.2) ∈ A p := by
  unfold rowsOf
  rw [List.mem_map]
  constructor
  · rintro ⟨r, hr, rfl⟩
    obtain ⟨h1, h2⟩ := List.mem_filter.mp hr
    have e : r.1 = hand := of_decide_eq_true h2
    refine ⟨rfl, ?_⟩
    rw [← e]
    exact h1
  · rintro ⟨h1, h2⟩
    exact ⟨(hand, q.2), List.mem_filter.mpr ⟨h2, decide_eq_true rfl⟩, by rw [← h1]⟩
theorem rowsOf_ris {A : Int → List HB} {hand : Int} (na : ∀ p, ((A p).map (·.1)).Nodup) : ∀ {zs : List Int}, zs.Pairwise (· < ·) → (zs.flatMap (rowsOf A hand)).Pairwise (fun e f => e.1 < f.1)
  | [], _ => List.Pairwise.nil
  | z :: zs, h => by
    obtain ⟨h1, h2⟩ := List.pairwise_cons.mp h
    rw [List.flatMap_cons]
    refine List.pairwise_append.mpr ⟨?_, rowsOf_ris na h2, fun a ha b hb => ?_⟩
    · unfold rowsOf
      rw [List.pairwise_map]
      have n1 := List.pairwise_map.mp (List.nodup_iff_pairwise_ne.mp (na z))
      have n2 := n1.sublist (List.filter_sublist (p := fun q => decide (q.1 = hand)))
      refine n2.imp_of_mem fun {a b} ha hb hne => absurd ?_ hne
      have e1 : a.1 = hand := of_decide_eq_true (List.mem_filter.mp ha).2
      have e2 : b.1 = hand := of_decide_eq_true (List.mem_filter.mp hb).2
      rw [e1, e2]
    · obtain ⟨y, hy, hb⟩ := List.mem_flatMap.mp hb
      rw [(rowsOf_mem.mp ha).1, (rowsOf_mem.mp hb).1]
      exact h1 y hy
theorem rowsOf_len {A : Int → List HB} {hand p : Int} (h : (A p).length ≤ 100) : (rowsOf A hand p).length ≤ 100 := by
  unfold rowsOf
  rw [List.length_map]
  exact Nat.le_trans (List.length_filter_le _ _) h
section
variable {P : Program} {w : World} {K : PySem.W.Frag} {mg : Str → Option Value} {base : Heap}
def sp_law_stands (K : PySem.W.Frag) : Sp := fun vs H Q _ => ∃ (s st ha pa : Addr) (R : List Addr) (A B : Int → List HB) (W : Int → Option Int) (PP HH : List Int), vs = [.ref s, .ref st, .ref ha, .ref pa] ∧ Duo K H s st R A B W PP HH ∧ H ha = some (.lst (HH.map V.int)) ∧ H pa = some (.lst (PP.map V.int)) ∧ PP.Nodup ∧ PP.length ≤ 60 ∧ ∀ H', Same H H' → Q (.bl true) H'
theorem ok_law_stands (T : TX K mg) : FnOk P w K mg base CX0 6 (He.ga K "_law_stands") T.fd_law_stands ["latches", "state", "hands", "pages"] (sp_law_stands K) := by
  have G_law_same : FnOk P w K mg base CX0 4 (He.ga K "_law_same") T.fd_law_same ["found", "due"] (sp_law_same K 3) := ok_law_same T 3
  have b_law_same := b_law_same T
  have G_law_awaits : FnOk P w K mg base CX0 1 (He.ga K "_law_awaits") T.fd_law_awaits ["state", "hand"] sp_law_awaits := ok_law_awaits T
  have b_law_awaits := b_law_awaits T
  have G_Latches_holders := ok_holders (P := P) (w := w) (base := base) T
  have b_Latches_holders := b_Latches_holders T
  have G_Latches_queue := ok_queue (P := P) (w := w) (base := base) T
  have b_Latches_queue := b_Latches_queue T
  have G_Latches_held := ok_held (P := P) (w := w) (base := base) T
  have b_Latches_held := b_Latches_held T
  have G_Latches_awaited := ok_awaited (P := P) (w := w) (base := base) T
  have b_Latches_awaited := b_Latches_awaited T
  have G_Latches_len := ok_len (P := P) (w := w) (base := base) T
  have b_Latches_len := b_Latches_len T
  refine T.F_law_stands.ok sc_law_stands (fun vs H Q E h => ?_) (fun cdv A outer st H vs Q E hr h => ?_)
  · obtain ⟨s, sa, ha, pa, R, A, B, W, PP, HH, rfl, _⟩ := h
    rfl
  · obtain ⟨s, sa, ha, pa, R, LA, LB, LW, PP, HH, rfl, ⟨F, G, xl, xs, o, dj, eR⟩, hha, hpa, ndP, lP, kq⟩ := h
    have lat : ∀ {H' : Hp}, Same H H' → Lat K H' s F LA LB LW := fun sm => xl.out (X := []) (Out.of sm) (Keep.of sm) fun _ _ z => nomatch z
    have sta : ∀ {H' : Hp}, Same H H' → St H' sa G LA LB PP := fun sm => xs.out (X := []) (Out.of sm) (Keep.of sm) fun _ _ z => nomatch z
    have ins : ∀ {H' : Hp}, Same H H' → ∃ dx a b c, H' s = some (.ins (He.ga K "Latches") dx (lfs a b c)) := fun sm => by
      obtain ⟨dx, a, b, c, ds, ls, ws, x, n1, n2⟩ := lat sm
      exact ⟨dx, a, b, c, x.hs⟩
    refine ⟨_, PSs.nox (pss_cons (ps_set (i := 4) sc_law_stands.nd rfl (Or.inl rfl) pe_int)
 (pss_cons (ps_for PassesOwn.never rfl (pi_list (pv 3)) (pg_name (i := 5) sc_law_stands.nd rfl (Or.inr rfl))
 (pss_cons (ps_set (i := 6) sc_law_stands.nd rfl (Or.inl rfl) (pe_callTy RU.call_tupF rfl T.n_tuple (by decide +kernel) (pa_cons (pe_callB HS.cr_sortedRow rfl T.n_sorted (by decide +kernel) (pa_cons (pe_dget2 (hu_of hr) (pe_dget (hu_of hr) (pv 1) pe_str (fun _ _ => rfl)) (pv 5) (pe_lst pa_nil) ⟨rfl, rfl, rfl, rfl⟩) pa_nil)) pa_nil)))
 (pss_cons (ps_set (i := 4) sc_law_stands.nd rfl (Or.inl rfl) (pe_op op_add (pv 4) (pe_callB call_len_seq rfl T.n_len PySem.boot_len (pa_cons (pv 6) pa_nil))))
 (pss_cons (ps_if (pt_not (pt_val (pe_call G_law_same (hr.mono (by first | decide | omega)) rfl T.g_law_same T.F_law_same.kp b_law_same .nil pass0 (pa_cons (pe_meth (pv 0) T.cl_Latches T.m_Latches_holders G_Latches_holders (hr.mono (by first | decide | omega)) b_Latches_holders .nil pass0 (pa_cons (pv 5) pa_nil)) (pa_cons (pv 6) pa_nil)))))
 (pss_one (ps_ret pe_bl))
 pss_nil)
 (pss_one (ps_if (pt_not (pt_val (pe_call G_law_same (hr.mono (by first | decide | omega)) rfl T.g_law_same T.F_law_same.kp b_law_same .nil pass0 (pa_cons (pe_meth (pv 0) T.cl_Latches T.m_Latches_queue G_Latches_queue (hr.mono (by first | decide | omega)) b_Latches_queue .nil pass0 (pa_cons (pv 5) pa_nil)) (pa_cons (pe_callTy RU.call_tupF rfl T.n_tuple (by decide +kernel) (pa_cons (pe_dget2 (hu_of hr) (pe_dget (hu_of hr) (pv 1) pe_str (fun _ _ => rfl)) (pv 5) (pe_lst pa_nil) ⟨rfl, rfl, rfl, rfl⟩) pa_nil)) pa_nil)))))
 (pss_one (ps_ret pe_bl))
 pss_nil))))))
 (pss_cons (ps_for PassesOwn.never rfl (pi_list (pv 2)) (pg_name (i := 7) sc_law_stands.nd rfl (Or.inr rfl))
 (pss_cons (ps_set (i := 8) sc_law_stands.nd rfl (Or.inl rfl) (pe_lst pa_nil))
 (pss_cons (ps_for PassesOwn.never rfl (pi_list (pe_callB cr_sorted rfl T.n_sorted (by decide +kernel) (pa_cons (pv 3) pa_nil))) (pg_name (i := 5) sc_law_stands.nd rfl (Or.inr rfl))
 (pss_one (ps_expr (pe_bm PySem.F.plainAttrs_list PySem.F.slot_list_extend PySem.F.type_list_extend mt_extend (pv 8) (pa_cons (pe_lc (own := [("one", 9), ("lone", 10)]) (g := gTup K 2 (gCons (gName 9) (gCons (gName 10) gNil))) (tt := _) rfl sc_law_stands.nd (pi_list (pe_dget2 (hu_of hr) (pe_dget (hu_of hr) (pv 1) pe_str (fun _ _ => rfl)) (pv 5) (pe_lst pa_nil) ⟨rfl, rfl, rfl, rfl⟩)) (blkOk_by (own := [("one", 9), ("lone", 10)]) (N := ["latches", "state", "hands", "pages", "many", "page", "some", "hand", "due", "one", "lone"]) (sc := defScope s_law_stands) (by decide +kernel)) (fun _ _ _ _ _ => (pg_tup rfl (pgs_cons (pg_name (i := 9) sc_law_stands.nd rfl (Or.inl rfl)) (pgs_cons (pg_name (i := 10) sc_law_stands.nd rfl (Or.inl rfl)) pgs_nil)))) (fun _ _ _ _ _ => pts_one (pt_cmpR op_eq (pv 9) (pv 7) (nomark _))) (fun _ _ _ _ _ => (pe_tup (pa_cons (pv 5) (pa_cons (pv 10) pa_nil))))) pa_nil)))))
 (pss_cons (ps_if (pt_not (pt_val (pe_call G_law_same (hr.mono (by first | decide | omega)) rfl T.g_law_same T.F_law_same.kp b_law_same .nil pass0 (pa_cons (pe_meth (pv 0) T.cl_Latches T.m_Latches_held G_Latches_held (hr.mono (by first | decide | omega)) b_Latches_held .nil pass0 (pa_cons (pv 7) pa_nil)) (pa_cons (pe_callTy RU.call_tupF rfl T.n_tuple (by decide +kernel) (pa_cons (pv 8) pa_nil)) pa_nil)))))
 (pss_one (ps_ret pe_bl))
 pss_nil)
 (pss_one (ps_if (pt_not (pt_val (pe_call G_law_same (hr.mono (by first | decide | omega)) rfl T.g_law_same T.F_law_same.kp b_law_same .nil pass0 (pa_cons (pe_meth (pv 0) T.cl_Latches T.m_Latches_awaited G_Latches_awaited (hr.mono (by first | decide | omega)) b_Latches_awaited .nil pass0 (pa_cons (pv 7) pa_nil)) (pa_cons (pe_call G_law_awaits (hr.mono (by first | decide | omega)) rfl T.g_law_awaits T.F_law_awaits.kp b_law_awaits .nil pass0 (pa_cons (pv 1) (pa_cons (pv 7) pa_nil))) pa_nil)))))
 (pss_one (ps_ret pe_bl))
 pss_nil))))))
 (pss_one (ps_ret (pe_cmpR op_eq (pe_callB (RP.cr_lenOwn G_Latches_len (hr.mono (by first | decide | omega)) T.m_Latches_len b_Latches_len pass0) rfl T.n_len PySem.boot_len (pa_cons (pv 0) pa_nil)) (pv 4) (nomark _))))))), ?_⟩
    refine ⟨_, rfl, pa, rfl, ⟨_, SqL.of hpa⟩, ?_⟩
    refine for_it (walk_list (xs := PP.map V.int)) (fun i σ H' => ∃ v5 v6, σ = [some (.ref s), some (.ref sa), some (.ref ha), some (.ref pa), some (.int ((((PP.take i).map fun p => (LA p).length).sum : Nat) : Int)), v5, v6, none, none, none, none] ∧ Same H H') ⟨_, _, rfl, Same.refl H⟩ (fun i σ H' _ z => by obtain ⟨_, _, _, z⟩ := z; exact SqL.of (z _ _ hpa)) ?_ ?_
    · rintro i v σ H1 H2 hi ⟨v5, v6, rfl, s1⟩ ⟨rfl, hv⟩
      obtain ⟨page, hp, rfl⟩ := map_at hv
      have hpm := List.mem_of_getElem? hp
      obtain ⟨hd, ln, es, fs, x1⟩ := sta s1
      refine ⟨_, rfl, sa, _, rfl, x1.held, hd, rfl, .inl ⟨_, .inl x1.hh⟩, _, rfl, Nat.zero_le _, fun e he => ?_⟩
      have s2 := same_new (o := .lst []) he
      have he2 : upd H2 e (.lst []) e = some (.lst []) := upd_same
      have x2 := x1.same s2
      generalize upd H2 e (.lst []) = H3 at s2 he2 x2
      refine ⟨_, DGet.k (k := .inl page) x2.hh, ?_⟩
      obtain ⟨l, el, ⟨us, hl, hu⟩, _⟩ := x2.get_held he2 page
      rw [el]
      obtain ⟨ps, rfl, hps, eps⟩ := qu_ps hu
      have nq : (ps.map fun z => z.2.1).Nodup := by
        have e2 := congrArg (List.map (·.1)) eps
        rw [List.map_map, List.map_map] at e2
        have e3 : (ps.map fun z => z.2.1) = (LA page).map (·.1) := e2.symm
        rw [e3]
        exact o.na page
      refine ⟨l, ps, rfl, SqL.of hl, hps, nq, fun H4 l4 zs s4 _ pp pw hl4 => ?_⟩
      obtain ⟨rs, h1, h2⟩ := perm_lift (fun q : HB => (q.1, V.bl q.2)) (pp.map (·.2)) (LA page) eps
      refine ⟨l4, _, rfl, SqL.of hl4, fun t ot ht hot => ?_⟩
      have s5 := same_new (o := .frz ot (.tup (zs.map fun z => V.ref z.1))) ht
      have fz5 : RU.FzT (upd H4 t (.frz ot (.tup (zs.map fun z => V.ref z.1)))) t (zs.map fun z => V.ref z.1) := ⟨ot, upd_same, hot⟩
      have pr5 : Paired (HbAt (upd H4 t (.frz ot (.tup (zs.map fun z => V.ref z.1))))) (zs.map fun z => V.ref z.1) rs := rows_hb h2 fun z hz => s5 _ _ (s4 _ _ (hps z (pp.mem_iff.mp hz)))
      have rr : RisH rs (LA page) := ⟨h1, by
        have e3 : (zs.map (·.2)).Pairwise (fun e f => e.1 < f.1) := List.pairwise_map.mpr pw
        rw [← h2, List.pairwise_map] at e3
        exact e3⟩
      have s15 := ((s1.trans s2).trans s4).trans s5
      generalize upd H4 t (.frz ot (.tup (zs.map fun z => V.ref z.1))) = H5 at s5 fz5 pr5 s15
      have lrs : (zs.map fun z => V.ref z.1).length = (LA page).length := by rw [pr5.length, rr.1.length_eq]
      refine ⟨_, rfl, _, rfl, t, _, rfl, .inr (fz_sq fz5), ?_⟩
      refine ⟨_, _, rfl, rfl, ?_⟩
      obtain ⟨dx, a, b, c, hs5⟩ := ins s15
      refine ⟨_, rfl, s, dx, _, rfl, hs5, rfl, _, rfl, s, F, LA, LB, LW, PP, HH, page, rfl, lat s15, o, hpm, fun H6 t6 us6 qs6 s6 fz6 pr6 ris6 => ?_⟩
      have eq6 : qs6 = rs := ris_eq ris6.2 rr.2 fun q => by rw [ris6.1.mem_iff, rr.1.mem_iff]
      have al := o.al page
      refine ⟨_, rfl, .ref t6, .ref t, .tuple (rs.map rowD), rfl, sameD_rows _ (by rw [rr.1.length_eq]; omega), by rw [← eq6]; exact rows_dp fz6 pr6, rows_dp (fz_keep (Keep.of s6) fz5) (paired_imp (fun _ _ r => HbAt.keep (Keep.of s6) r) pr5), fun H7 s7 => ⟨true, rfl, iteF ?_⟩⟩
      have s17 := (s15.trans s6).trans s7
      obtain ⟨dx, a, b, c, hs7⟩ := ins s17
      refine ⟨_, rfl, s, dx, _, rfl, hs7, rfl, _, rfl, s, F, LA, LB, LW, PP, HH, page, rfl, lat s17, o, hpm, fun H8 t8 us8 s8 fz8 pr8 => ?_⟩
      obtain ⟨hd, ln, es, fs, x8⟩ := sta (s17.trans s8)
      refine ⟨_, rfl, sa, _, rfl, x8.line, ln, rfl, .inl ⟨_, .inl x8.hl⟩, _, rfl, Nat.zero_le _, fun e he => ?_⟩
      have s9 := same_new (o := .lst []) he
      have he9 : upd H8 e (.lst []) e = some (.lst []) := upd_same
      have x9 := x8.same s9
      have fz9 := fz_keep (Keep.of s9) fz8
      have pr9 := paired_imp (fun _ _ r => HbAt.keep (Keep.of s9) r) pr8
      have s19 := (s17.trans s8).trans s9
      generalize upd H8 e (.lst []) = H9 at s9 he9 x9 fz9 pr9 s19
      refine ⟨_, DGet.k (k := .inl page) x9.hl, ?_⟩
      obtain ⟨l9, el9, ⟨ws9, hl9, hw9⟩, _⟩ := x9.get_line he9 page
      rw [el9]
      refine ⟨l9, _, rfl, SqL.of hl9, fun tb ob htb hob => ?_⟩
      have sb := same_new (o := .frz ob (.tup ws9)) htb
      have fzb : RU.FzT (upd H9 tb (.frz ob (.tup ws9))) tb ws9 := ⟨ob, upd_same, hob⟩
      have prb : Paired (HbAt (upd H9 tb (.frz ob (.tup ws9)))) ws9 (LB page) := paired_imp (fun _ _ r => HbAt.keep (Keep.of sb) r) hw9
      have bl := o.bl page
      refine ⟨.ref t8, .ref tb, .tuple ((LB page).map rowD), rfl, sameD_rows _ (by omega), rows_dp (fz_keep (Keep.of sb) fz9) (paired_imp (fun _ _ r => HbAt.keep (Keep.of sb) r) pr9), rows_dp fzb prb, fun Hc sc => ⟨true, rfl, iteF ?_⟩⟩
      refine ⟨some (.int page), some (.ref t), ?_, (s19.trans sb).trans sc⟩
      have e1 : (((PP.take (i + 1)).map fun p => (LA p).length).sum : Nat) = ((PP.take i).map fun p => (LA p).length).sum + (zs.map fun z => V.ref z.1).length := by
        rw [List.take_add_one, hp, List.map_append, List.sum_append, lrs]
        simp
      rw [e1]
      show [some (V.ref s), some (V.ref sa), some (V.ref ha), some (V.ref pa), some (V.int (((((PP.take i).map fun p => (LA p).length).sum : Nat) : Int) + (((zs.map fun z => V.ref z.1).length : Nat) : Int))), some (V.int page), some (V.ref t), none, none, none, none] = _
      rw [← Int.natCast_add]
    · rintro σ H1 ⟨v5, v6, rfl, s1⟩
      rw [List.length_map, List.take_length]
      obtain ⟨many, emany⟩ : ∃ many : Nat, many = (PP.map fun p => (LA p).length).sum := ⟨_, rfl⟩
      rw [← emany]
      have hha1 := s1 _ _ hha
      refine ⟨_, rfl, ha, rfl, ⟨_, SqL.of hha1⟩, ?_⟩
      refine for_it (walk_list (xs := HH.map V.int)) (fun i σ H' => ∃ v5 v6 v7 v8, σ = [some (.ref s), some (.ref sa), some (.ref ha), some (.ref pa), some (.int (many : Int)), v5, v6, v7, v8, none, none] ∧ Same H H') ⟨_, _, _, _, rfl, s1⟩ (fun i σ H' _ z => by obtain ⟨_, _, _, _, _, z⟩ := z; exact SqL.of (z _ _ hha)) ?_ ?_
      · rintro i v σ H2 H3 hi ⟨v5, v6, v7, v8, rfl, s2⟩ ⟨rfl, hv⟩
        obtain ⟨hand, hp, rfl⟩ := map_at hv
        have hhm := List.mem_of_getElem? hp
        refine ⟨Nat.zero_le _, fun D hD => ?_⟩
        have s4 := same_new (o := .lst []) hD
        have hD4 : upd H3 D (.lst []) D = some (.lst []) := upd_same
        have DH : H D = none := none_of s2 hD
        have s14 := s2.trans s4
        generalize upd H3 D (.lst []) = H4 at s4 hD4 s14
        refine ⟨_, rfl, pa, PP, rfl, SqL.of (s14 _ _ hpa), by omega, fun zs l pz zw hl => ?_⟩
        have s5 := same_new (o := .lst (zs.map V.int)) hl
        have hl5 : upd H4 l (.lst (zs.map V.int)) l = some (.lst (zs.map V.int)) := upd_same
        have hD5 := s5 _ _ hD4
        have lD : l ≠ D := fun z => by rw [z, hD4] at hl; cases hl
        have s15 := s14.trans s5
        generalize upd H4 l (.lst (zs.map V.int)) = H5 at s5 hl5 hD5 s15
        have zlt : zs.Pairwise (· < ·) := by
          have n1 : zs.Nodup := pz.nodup_iff.mpr ndP
          exact ((zw.and (List.nodup_iff_pairwise_ne.mp n1)).imp fun h => by have h1 := h.1; have h2 := h.2; omega)
        have lz : zs.length ≤ 60 := by rw [pz.length_eq]; exact lP
        refine ⟨l, rfl, ⟨_, SqL.of hl5⟩, ?_⟩
        refine for_it (walk_list (xs := zs.map V.int)) (fun j σ H' => ∃ v5, σ = [some (.ref s), some (.ref sa), some (.ref ha), some (.ref pa), some (.int (many : Int)), v5, v6, some (.int hand), some (.ref D), none, none] ∧ Same H H' ∧ H' l = some (.lst (zs.map V.int)) ∧ ∃ xs : List V, H' D = some (.lst xs) ∧ Paired (HbAt H') xs ((zs.take j).flatMap (rowsOf LA hand)) ∧ xs.length ≤ 100 * j) ⟨_, rfl, s15, hl5, [], hD5, .nil, Nat.zero_le _⟩ (fun j σ H' _ z => by obtain ⟨_, _, _, z, _⟩ := z; exact SqL.of z) ?_ ?_
        · rintro j v σ H6 H7 hj ⟨v5, rfl, s6, hl6, xs6, hD6, hx6, lx6⟩ ⟨rfl, hv⟩
          obtain ⟨page, hpg, rfl⟩ := map_at hv
          have hj' : j < zs.length := by rw [List.length_map] at hj; exact hj
          obtain ⟨hd, ln, es, fs, x6⟩ := sta s6
          refine ⟨_, rfl, .inl ⟨rfl, _, SqL.of hD6⟩, ?_⟩
          refine ⟨_, rfl, sa, _, rfl, x6.held, hd, rfl, .inl ⟨_, .inl x6.hh⟩, _, rfl, Nat.zero_le _, fun e he => ?_⟩
          have s7 := same_new (o := .lst []) he
          have he7 : upd H7 e (.lst []) e = some (.lst []) := upd_same
          have x7 := x6.same s7
          generalize upd H7 e (.lst []) = H8 at s7 he7 x7
          refine ⟨_, DGet.k (k := .inl page) x7.hh, ?_⟩
          obtain ⟨l7, el7, ⟨us, hl7, hu⟩, _⟩ := x7.get_held he7 page
          rw [el7]
          have al := o.al page
          have lus : us.length = (LA page).length := hu.length
          refine ⟨l7, rfl, ⟨_, SqL.of hl7⟩, fun D2 hD2 => ?_⟩
          have s8 := same_new (o := .lst []) hD2
          refine RU.out_it (walk_list (xs := us)) (fun k H' => Same H8 H' ∧ ∃ ys : List V, H' D2 = some (.lst ys) ∧ Paired (HbAt H') ys ((((LA page).take k).filter fun q => decide (q.1 = hand)).map fun q => (page, q.2))) ⟨s8, [], upd_same, .nil⟩ (fun k H' _ z => SqL.of (z.1 _ _ hl7)) ?_ ?_
          · rintro k y H9 Ha hk ⟨s9, ys, hD9, hys⟩ ⟨rfl, hy⟩
            obtain ⟨r, hr', t, rfl, ht⟩ := pget1 hu hy
            have et : ((((LA page).take (k + 1)).filter fun q => decide (q.1 = hand)).map fun q => (page, q.2)) = ((((LA page).take k).filter fun q => decide (q.1 = hand)).map fun q => (page, q.2)) ++ (([r].filter fun q => decide (q.1 = hand)).map fun q => (page, q.2)) := by
              rw [List.take_add_one, hr', List.filter_append, List.map_append]
              rfl
            have small : ys.length ≤ 100 := by
              have h1 := hys.length
              rw [List.length_map] at h1
              have h2 := List.length_filter_le (fun q : HB => decide (q.1 = hand)) ((LA page).take k)
              rw [List.length_take] at h2
              omega
            refine ⟨t, _, rfl, .inl (.inl (s9 _ _ ht)), rfl, ?_⟩
            refine ⟨_, _, rfl, _, _, rfl, rfl, ?_⟩
            refine ⟨rfl, _, rfl, _, rfl, rfl, _, rfl, ?_⟩
            by_cases c : r.1 = hand
            · have e1 : decide (V.int r.1 = V.int hand) = true := by rw [c, decide_eq_true rfl]
              rw [e1]
              refine iteT ⟨_, rfl, _, rfl, by show 2 ≤ sizeLine; decide, fun tn htn => ?_⟩
              have sb := same_new (o := .tup [.int page, .bl r.2]) htn
              have htb : upd Ha tn (.tup [.int page, .bl r.2]) tn = some (.tup [.int page, .bl r.2]) := upd_same
              generalize upd Ha tn (.tup [.int page, .bl r.2]) = Hb at sb htb
              have hDb := sb _ _ hD9
              have kb : Keep Hb (upd Hb D2 (.lst (ys ++ [.ref tn]))) := (Keep.refl Hb).upd fun u e => by rw [hDb] at e; cases e; rfl
              refine ⟨_, hDb, by unfold sizeLine; omega, same_upd (s9.trans sb) hD2, ys ++ [.ref tn], upd_same, ?_⟩
              rw [et, List.filter_cons, if_pos (decide_eq_true c)]
              exact paired_app (paired_imp (fun _ _ r => HbAt.keep kb r) (paired_imp (fun _ _ r => HbAt.keep (Keep.of sb) r) hys)) (.cons ⟨tn, rfl, kb _ _ htb⟩ .nil)
            · have e1 : decide (V.int r.1 = V.int hand) = false := decide_eq_false fun z => c (by injection z)
              rw [e1]
              refine iteF ⟨s9, ys, hD9, ?_⟩
              rw [et, List.filter_cons, if_neg (by rw [decide_eq_false c]; exact Bool.false_ne_true)]
              simpa using hys
          · rintro H9 ⟨s9, ys, hD9, hys⟩
            rw [lus, List.take_length] at hys
            have s79 := s7.trans s9
            have hD69 := s79 _ _ hD6
            have ly : ys.length ≤ 100 := by rw [hys.length]; exact rowsOf_len al
            refine ⟨D, D2, xs6, ys, rfl, rfl, hD69, hD9, by unfold sizeLine; omega, ?_⟩
            have k9 : Keep H9 (upd H9 D (.lst (xs6 ++ ys))) := (Keep.refl H9).upd fun u e => by rw [hD69] at e; cases e; rfl
            have et : (zs.take (j + 1)).flatMap (rowsOf LA hand) = (zs.take j).flatMap (rowsOf LA hand) ++ rowsOf LA hand page := by
              rw [List.take_add_one, hpg, List.flatMap_append]
              simp
            refine ⟨_, rfl, same_upd (s6.trans s79) DH, by rw [upd_ne lD]; exact s79 _ _ hl6, xs6 ++ ys, upd_same, ?_, by rw [List.length_append]; omega⟩
            rw [et]
            exact paired_app (paired_imp (fun _ _ r => HbAt.keep k9 r) (paired_imp (fun _ _ r => HbAt.keep (Keep.of s79) r) hx6)) (paired_imp (fun _ _ r => HbAt.keep k9 r) hys)
        · rintro σ H6 ⟨v5, rfl, s6, hl6, xs6, hD6, hx6, lx6⟩
          rw [List.length_map, List.take_length] at hx6
          have lf : (zs.flatMap (rowsOf LA hand)).length ≤ 6000 := by
            have h1 := hx6.length
            rw [List.length_map] at lx6
            omega
          obtain ⟨dx, a, b, c, hs6⟩ := ins s6
          refine ⟨_, rfl, s, dx, _, rfl, hs6, rfl, _, rfl, s, F, LA, LB, LW, PP, HH, hand, rfl, lat s6, o, hhm, fun H7 t7 us7 qs7 s7 fz7 pr7 mem7 ris7 => ?_⟩
          have hD7 := s7 _ _ hD6
          refine ⟨_, rfl, D, _, rfl, SqL.of hD7, fun t8 o8 ht8 ho8 => ?_⟩
          have s8 := same_new (o := .frz o8 (.tup xs6)) ht8
          have fz8 : RU.FzT (upd H7 t8 (.frz o8 (.tup xs6))) t8 xs6 := ⟨o8, upd_same, ho8⟩
          have k78 := Keep.of (s7.trans s8)
          have s68 := (s6.trans s7).trans s8
          have fz7' := fz_keep (Keep.of s8) fz7
          have pr7' := paired_imp (fun _ _ r => HbAt.keep (Keep.of s8) r) pr7
          have pr8 := paired_imp (fun _ _ r => HbAt.keep k78 r) hx6
          generalize upd H7 t8 (.frz o8 (.tup xs6)) = H8 at fz8 s68 fz7' pr7' pr8
          have eq7 : qs7 = zs.flatMap (rowsOf LA hand) := ris_eq ris7 (rowsOf_ris o.na zlt) fun q => by
            rw [List.mem_flatMap, mem7 q.1 q.2]
            constructor
            · intro m
              exact ⟨q.1, pz.mem_iff.mpr (o.pa _ fun z => by rw [z] at m; cases m), rowsOf_mem.mpr ⟨rfl, m⟩⟩
            · rintro ⟨y, _, hy⟩
              obtain ⟨h1, h2⟩ := rowsOf_mem.mp hy
              rw [h1]
              exact h2
          refine ⟨.ref t7, .ref t8, .tuple ((zs.flatMap (rowsOf LA hand)).map rowD), rfl, sameD_rows _ (by omega), by rw [← eq7]; exact rows_dp fz7' pr7', rows_dp fz8 pr8, fun H9 s9 => ⟨true, rfl, iteF ?_⟩⟩
          have s69 := s68.trans s9
          obtain ⟨dx, a, b, c, hs9⟩ := ins s69
          refine ⟨_, rfl, s, dx, _, rfl, hs9, rfl, _, rfl, s, F, LA, LB, LW, PP, HH, hand, rfl, lat s69, o, hhm, ?_⟩
          refine ⟨_, rfl, _, rfl, sa, G, LA, LB, PP, hand, LW hand, rfl, sta s69, o.pl, o.bl, fun p => o.ww hand p, fun Ha sa' => ?_⟩
          have sam : ∃ d, SameD 3 d ∧ Dp K Ha (((LW hand).map V.int).getD .non) d := by
            cases LW hand with
            | none => exact ⟨.none, trivial, .non⟩
            | some z => exact ⟨.int z, trivial, .int z⟩
          obtain ⟨d, d1, d2⟩ := sam
          exact ⟨_, _, d, rfl, d1, d2, d2, fun Hb sb => ⟨true, rfl, iteF ⟨_, _, _, _, rfl, (s69.trans sa').trans sb⟩⟩⟩
      · rintro σ H2 ⟨v5, v6, v7, v8, rfl, s2⟩
        obtain ⟨dx, a, b, c, hs2⟩ := ins s2
        have lm : many ≤ 6000 := by
          have h1 : ∀ l : List Int, (l.map fun p => (LA p).length).sum ≤ 100 * l.length := fun l => by
            induction l with
            | nil => exact Nat.le_refl _
            | cons x l ih =>
              have := o.al x
              rw [List.map_cons, List.sum_cons, List.length_cons]
              omega
          have := h1 PP
          omega
        refine ⟨_, rfl, s, dx, _, rfl, hs2, s, F, LA, LB, LW, PP, HH, PP, rfl, lat s2, o, ndP, o.pa, fun H3 s3 => ⟨_, rfl, by rw [← emany]; unfold sizeLine; omega, _, rfl, rfl, ?_⟩⟩
        have z := kq _ (s2.trans s3)
        have e1 : decide (V.int (((PP.map fun p => (LA p).length).sum : Nat) : Int) = V.int (many : Int)) = true := by rw [emany]; exact decide_eq_true rfl
        rw [e1]
        exact z
end
end K37

namespace K37
open PySem PySem.Spec PyProof.Rows L2 RZ HX TR RP AL
theorem okk_none {PP HH : List Int} (h1 : PP.length ≤ 100) (h2 : HH.length ≤ 100) (h3 : ∀ p ∈ PP, 0 ≤ p ∧ p ≤ 1000000) (h4 : ∀ h ∈ HH, 0 ≤ h ∧ h ≤ 60) : Okk PP HH (fun _ => []) (fun _ => []) (fun _ => none) :=
  ⟨h1, h2, h3, h4, fun _ h => absurd rfl h, fun _ h => absurd rfl h, (fun _ _ h => nomatch h), (fun _ _ h => nomatch h), fun _ => List.nodup_nil, fun _ => List.nodup_nil, fun h p => ⟨(fun e => nomatch e), (fun e => nomatch e)⟩, (fun _ _ h => nomatch h)⟩
/-- all hands of zs are at the page; nobody waits where nobody holds -/
structure Cr (A B : Int → List HB) (page : Int) (zs : List Int) : Prop where
  pm : ((A page ++ B page).map (·.1)).Perm zs
  em : A page = [] → B page = []
theorem fits_nil {b : Bool} : fits [] b = true := rfl
theorem cr_take {A B : Int → List HB} {page hand : Int} {lone : Bool} {zs : List Int} (h : Cr A B page zs) : Cr (takeA A B hand page lone) (takeB A B hand page lone) page (zs ++ [hand]) := by
  unfold takeA takeB
  by_cases c : atOnce A B page lone = true
  · rw [if_pos c, if_pos c]
    have be : B page = [] := by
      unfold atOnce at c
      exact List.isEmpty_iff.mp (Bool.and_eq_true_iff.mp c).1
    refine ⟨?_, fun _ => be⟩
    rw [fup_eq, be, List.append_nil, List.map_append]
    have z := h.pm
    rw [be, List.append_nil] at z
    exact List.Perm.append_right _ z
  · rw [if_neg c, if_neg c]
    refine ⟨?_, fun e => ?_⟩
    · rw [fup_eq, ← List.append_assoc, List.map_append]
      exact List.Perm.append_right _ h.pm
    · refine absurd ?_ c
      unfold atOnce
      rw [h.em e, e]
      rfl
theorem prom_ne : ∀ {qs hs : List HB}, (prom hs qs).1 = [] → (prom hs qs).2.1 = []
  | [], _, _ => rfl
  | q :: qs, hs, h => by
    unfold prom at h ⊢
    by_cases c : fits hs q.2 = true
    · rw [if_pos c] at h ⊢
      exact prom_ne h
    · rw [if_neg c] at h ⊢
      have e : hs = [] := h
      rw [e] at c
      exact absurd fits_nil c
theorem cr_let {A B : Int → List HB} {page hand : Int} {zs : List Int} {n : Nat} (h : Cr A B page zs) (na : ((A page).map (·.1)).Nodup) (hh : hand ∈ (A page).map (·.1)) (hn : zs.length = n + 1) : ∃ zs', Cr (letA A B hand page) (letB A B hand page) page zs' ∧ zs'.length = n := by
  obtain ⟨e1, e2⟩ := prom_spec (qs := B page) (hs := lessH hand (A page))
  refine ⟨_, ⟨List.Perm.refl _, fun e => ?_⟩, ?_⟩
  · unfold letA at e
    unfold letB
    rw [fup_eq] at e ⊢
    exact prom_ne e
  · unfold letA letB letP
    rw [fup_eq, fup_eq, e1, List.append_assoc, ← e2, List.length_map, List.length_append]
    have l1 := h.pm.length_eq
    rw [List.length_map, List.length_append, hn] at l1
    have l2 : (lessH hand (A page)).length + 1 = (A page).length := by
      clear e1 e2 l1 h
      generalize A page = hs at na hh
      induction hs with
      | nil => cases hh
      | cons q hs ih =>
        rw [List.map_cons] at na hh
        obtain ⟨n1, n2⟩ := List.nodup_cons.mp na
        unfold lessH
        rw [List.filter_cons]
        by_cases c : q.1 = hand
        · rw [if_neg (by rw [decide_eq_true_eq]; exact fun h => h c)]
          have e3 : hs.filter (fun q => decide (q.1 ≠ hand)) = hs := List.filter_eq_self.mpr fun r hr => decide_eq_true fun z => n1 (by rw [c, ← z]; exact List.mem_map_of_mem (f := (·.1)) hr)
          rw [e3, List.length_cons]
        · rw [if_pos (by rw [decide_eq_true_eq]; exact c), List.length_cons, List.length_cons]
          have z := ih n2 ((List.mem_cons.mp hh).resolve_left fun e => c e.symm)
          unfold lessH at z
          omega
    omega
theorem made {H H1 : Hp} {s dx : Addr} {o1 o2 : HO} (hs : H s = none) (hdx : H dx = none) (b1 : But s (upd (upd H dx o1) s o2) H1) : Same H H1 := fun b u e => by
  have n1 : b ≠ s := fun z => by rw [z, hs] at e; cases e
  have n2 : b ≠ dx := fun z => by rw [z, hdx] at e; cases e
  exact b1 _ _ n1 (by rw [upd_ne n1, upd_ne n2]; exact e)
theorem made_none {H : Hp} {s dx a : Addr} {o1 o2 : HO} (h : upd (upd H dx o1) s o2 a = none) : H a = none := by
  by_cases c : a = s
  · rw [c, upd_same] at h; cases h
  rw [upd_ne c] at h
  by_cases d : a = dx
  · rw [d, upd_same] at h; cases h
  rw [upd_ne d] at h
  exact h
theorem duo_new {K : PySem.W.Frag} {H1 H2 : Hp} {s st dx a b c : Addr} {G : List Addr} {PP HH : List Int} (x : LatAt K H1 s [s, a, b, c] (fun _ => []) (fun _ => []) (fun _ => none) dx a b c [] [] []) (sm : Same H1 H2) (g : ∀ y ∈ G, H1 y = none) (y : St H2 st G (fun _ => []) (fun _ => []) PP) (o : Okk PP HH (fun _ => []) (fun _ => []) (fun _ => none)) : Duo K H2 s st ([s, a, b, c] ++ G) (fun _ => []) (fun _ => []) (fun _ => none) PP HH :=
  ⟨[s, a, b, c], G, ⟨dx, a, b, c, [], [], [], x.same sm, (fun q hq => nomatch hq), (fun q hq => nomatch hq)⟩, y, o, fun z h1 h2 => reg_none x.reg (g z h2) h1, fun z => List.mem_append⟩
theorem out_stay {R R' : List Addr} {H1 : Hp} {m : Addr} {u : HO} (r : ∀ y ∈ R', y ∈ R ∨ H1 y = none) (nm : m ∉ R) (h : H1 m = some u) : m ∉ R' := fun z => (r m z).elim nm fun e => by rw [h] at e; cases e
theorem out_but {R : List Addr} {H H1 H2 : Hp} {p : Addr} (b : But p H H1) (o : Out R H1 H2) (f : ∀ y ∈ R, H y = none) : But p H H2 := fun c u n e => o _ _ (fun m => by rw [f c m] at e; cases e) (b c u n e)
theorem new_but {R R' : List Addr} {H H1 : Hp} {p : Addr} {u : HO} (b : But p H H1) (hp : H1 p = some u) (r : ∀ y ∈ R', y ∈ R ∨ H1 y = none) (f : ∀ y ∈ R, H y = none) : ∀ y ∈ R', H y = none := fun y hy => (r y hy).elim (f y) fun e => but_none b (fun z => by rw [z, hp] at e; cases e) e
theorem pot_out {H H' : Hp} {p : Addr} {C : Int} {R : List Addr} (h : PotOk H p C) (o : Out R H H') (n : p ∉ R) : PotOk H' p C := by
  obtain ⟨x, y, c, h1, h2⟩ := h
  exact ⟨x, y, c, o _ _ n h1, h2⟩
theorem pot_keep {H H' : Hp} {p : Addr} {C : Int} (h : PotOk H p C) (b : But p H H') : Keep H H' := Keep.but b fun u e => by
  obtain ⟨_, _, _, z, _⟩ := h
  rw [z] at e
  cases e
  rfl
theorem Duo.but {K : PySem.W.Frag} {H H' : Hp} {s st p : Addr} {R : List Addr} {A B : Int → List HB} {W : Int → Option Int} {PP HH : List Int} {C : Int} (x : Duo K H s st R A B W PP HH) (h : PotOk H p C) (b : But p H H') (n : p ∉ R) : Duo K H' s st R A B W PP HH := x.out (Out.but b) (pot_keep h b) fun y hy z => n (by rw [← List.mem_singleton.mp z]; exact hy)
theorem Duo.okk {K : PySem.W.Frag} {H : Hp} {s st : Addr} {R : List Addr} {A B : Int → List HB} {W : Int → Option Int} {PP HH : List Int} (x : Duo K H s st R A B W PP HH) : Okk PP HH A B W := by
  obtain ⟨F, G, x1, x2, o, d, e⟩ := x
  exact o
section
variable {P : Program} {w : World} {K : PySem.W.Frag} {mg : Str → Option Value} {base : Heap}
def sp_law_crowd : Sp := fun vs H Q _ => ∃ (p : Addr) (C : Int), vs = [.ref p] ∧ PotOk H p C ∧ C < 2 ^ 38 ∧ ∀ H', But p H H' → PotOk H' p (C + 200) → Q (.bl true) H'
end
end K37

namespace K37
open PySem PySem.Spec PyProof.Rows L2 RZ HX TR RP AL
/-- who asked when: all ahead of n; who waits, in the order of asking, behind who holds; a lone holder is alone; who waits first doesn't fit -/
structure Fair (A B : Int → List HB) (Tm : Int → Int → Int) (n : Int) : Prop where
  ha : ∀ p, ∀ q ∈ A p, Tm q.1 p < n
  hb : ∀ p, ∀ q ∈ B p, Tm q.1 p < n
  ord : ∀ p, ((B p).map fun q => Tm q.1 p).Pairwise (· < ·)
  ab : ∀ p, ∀ a ∈ A p, ∀ b ∈ B p, Tm a.1 p < Tm b.1 p
  sole : ∀ p, (∃ q ∈ A p, q.2 = true) → (A p).length ≤ 1
  front : ∀ p q r, B p = q :: r → fits (A p) q.2 = false
theorem fair_none {Tm : Int → Int → Int} {n : Int} : Fair (fun _ => []) (fun _ => []) Tm n := ⟨(fun _ _ h => nomatch h), (fun _ _ h => nomatch h), fun _ => List.Pairwise.nil, (fun _ _ h => nomatch h), (fun _ ⟨_, h, _⟩ => nomatch h), (fun _ _ _ h => nomatch h)⟩
def tmPut (Tm : Int → Int → Int) (hand page n : Int) : Int → Int → Int := fun h p => if h = hand ∧ p = page then n else Tm h p
theorem tm_eq {Tm : Int → Int → Int} {hand page n : Int} : tmPut Tm hand page n hand page = n := if_pos ⟨rfl, rfl⟩
theorem tm_ne {Tm : Int → Int → Int} {hand page n h p : Int} (c : ¬ (h = hand ∧ p = page)) : tmPut Tm hand page n h p = Tm h p := if_neg c
theorem fits_cases {hs : List HB} {l : Bool} : fits hs l = true ↔ hs = [] ∨ (l = false ∧ ∀ q ∈ hs, q.2 = false) := by
  unfold fits
  cases hs with
  | nil => simp
  | cons q qs =>
    cases l with
    | true => simp
    | false =>
      simp only [List.isEmpty_cons, Bool.false_or, Bool.not_eq_true', reduceCtorEq, true_and, false_or]
      rw [List.any_eq_false]
      exact ⟨fun h x hx => by simpa using h x hx, fun h x hx => by simpa using h x hx⟩
def Sole (hs : List HB) : Prop := (∃ q ∈ hs, q.2 = true) → hs.length ≤ 1
theorem sole_snoc {hs : List HB} {q : HB} (f : fits hs q.2 = true) : Sole (hs ++ [q]) := by
  rcases fits_cases.mp f with e | ⟨e, h⟩
  · rw [e]
    exact fun _ => Nat.le_refl _
  · rintro ⟨r, hr, hr2⟩
    rcases List.mem_append.mp hr with m | m
    · rw [h r m] at hr2; cases hr2
    · rw [List.mem_singleton.mp m, e] at hr2; cases hr2
theorem sole_prom : ∀ {qs hs : List HB}, Sole hs → Sole (prom hs qs).1
  | [], _, h => h
  | q :: qs, hs, h => by
    unfold prom
    by_cases c : fits hs q.2 = true
    · rw [if_pos c]
      exact sole_prom (sole_snoc c)
    · rw [if_neg c]
      exact h
theorem prom_front : ∀ {qs hs : List HB} {q : HB} {r : List HB}, (prom hs qs).2.1 = q :: r → fits (prom hs qs).1 q.2 = false
  | [], _, _, _, h => by cases h
  | q0 :: qs, hs, q, r, h => by
    unfold prom at h ⊢
    by_cases c : fits hs q0.2 = true
    · rw [if_pos c] at h ⊢
      exact prom_front h
    · rw [if_neg c] at h ⊢
      injection h with h1 h2
      rw [← h1]
      exact Bool.eq_false_iff.mpr c
theorem fair_take {P HH : List Int} {A B : Int → List HB} {W : Int → Option Int} {Tm : Int → Int → Int} {n hand page : Int} {lone : Bool} (o : Okk P HH A B W) (f : Fair A B Tm n) (hw : W hand = none) (hn : hand ∉ (A page).map (·.1)) : Fair (takeA A B hand page lone) (takeB A B hand page lone) (tmPut Tm hand page n) (n + 1) := by
  have nb : hand ∉ (B page).map (·.1) := fun m => by
    have z := (o.ww hand page).mpr m
    rw [hw] at z
    cases z
  have tA : ∀ p, ∀ q ∈ A p, tmPut Tm hand page n q.1 p = Tm q.1 p := fun p q hq => tm_ne fun ⟨e1, e2⟩ => hn (by rw [← e1, ← e2]; exact List.mem_map_of_mem (f := (·.1)) hq)
  have tB : ∀ p, ∀ q ∈ B p, tmPut Tm hand page n q.1 p = Tm q.1 p := fun p q hq => tm_ne fun ⟨e1, e2⟩ => nb (by rw [← e1, ← e2]; exact List.mem_map_of_mem (f := (·.1)) hq)
  have oA : ∀ p, ∀ q ∈ A p, tmPut Tm hand page n q.1 p < n := fun p q hq => by rw [tA p q hq]; exact f.ha p q hq
  have oB : ∀ p, ∀ q ∈ B p, tmPut Tm hand page n q.1 p < n := fun p q hq => by rw [tB p q hq]; exact f.hb p q hq
  have mB : ∀ p, ((B p).map fun q => tmPut Tm hand page n q.1 p) = (B p).map fun q => Tm q.1 p := fun p => List.map_congr_left fun q hq => tB p q hq
  unfold takeA takeB
  by_cases c : atOnce A B page lone = true
  · rw [if_pos c, if_pos c]
    obtain ⟨c1, c2⟩ := Bool.and_eq_true_iff.mp (show ((B page).isEmpty && fits (A page) lone) = true from c)
    have be : B page = [] := List.isEmpty_iff.mp c1
    refine ⟨fun p q hq => ?_, fun p q hq => Int.lt_trans (oB p q hq) (Int.lt_succ n), fun p => by rw [mB]; exact f.ord p, fun p a ha b hb => ?_, fun p => ?_, fun p q r e => ?_⟩
    · by_cases e : p = page
      · rw [e, fup_eq] at hq
        rcases List.mem_append.mp hq with m | m
        · have := oA page q m
          rw [e]
          omega
        · rw [List.mem_singleton.mp m, e, tm_eq]
          omega
      · rw [fup_ne e] at hq
        have := oA p q hq
        omega
    · by_cases e : p = page
      · rw [e, be] at hb; cases hb
      · rw [fup_ne e] at ha
        rw [tA p a ha, tB p b hb]
        exact f.ab p a ha b hb
    · by_cases e : p = page
      · rw [e, fup_eq]
        exact sole_snoc c2
      · rw [fup_ne e]
        exact f.sole p
    · by_cases e2 : p = page
      · rw [e2, be] at e; cases e
      · rw [fup_ne e2]
        exact f.front p q r e
  · rw [if_neg c, if_neg c]
    refine ⟨fun p q hq => Int.lt_trans (oA p q hq) (Int.lt_succ n), fun p q hq => ?_, fun p => ?_, fun p a ha b hb => ?_, f.sole, fun p q r e => ?_⟩
    · by_cases e : p = page
      · rw [e, fup_eq] at hq
        rcases List.mem_append.mp hq with m | m
        · have := oB page q m
          rw [e]
          omega
        · rw [List.mem_singleton.mp m, e, tm_eq]
          omega
      · rw [fup_ne e] at hq
        have := oB p q hq
        omega
    · by_cases e : p = page
      · rw [e, fup_eq, List.map_append, mB]
        refine List.pairwise_append.mpr ⟨f.ord page, List.pairwise_singleton .., fun x hx y hy => ?_⟩
        obtain ⟨q, hq, rfl⟩ := List.mem_map.mp hx
        rw [List.mem_singleton.mp hy]
        show Tm q.1 page < tmPut Tm hand page n hand page
        rw [tm_eq]
        exact f.hb page q hq
      · rw [fup_ne e, mB]
        exact f.ord p
    · by_cases e : p = page
      · rw [e, fup_eq] at hb
        rw [e] at ha
        rw [e, tA page a ha]
        rcases List.mem_append.mp hb with m | m
        · rw [tB page b m]
          exact f.ab page a ha b m
        · rw [List.mem_singleton.mp m, tm_eq]
          exact f.ha page a ha
      · rw [fup_ne e] at hb
        rw [tA p a ha, tB p b hb]
        exact f.ab p a ha b hb
    · by_cases e2 : p = page
      · rw [e2, fup_eq] at e
        rw [e2]
        cases hb : B page with
        | nil =>
          rw [hb] at e
          injection e with e3 e4
          rw [← e3]
          have z : ((B page).isEmpty && fits (A page) lone) = false := Bool.eq_false_iff.mpr c
          rw [hb] at z
          exact z
        | cons q0 r0 =>
          rw [hb] at e
          injection e with e3 e4
          rw [← e3]
          exact f.front page q0 r0 hb
      · rw [fup_ne e2] at e
        exact f.front p q r e
theorem fair_let {A B : Int → List HB} {Tm : Int → Int → Int} {n hand page : Int} (f : Fair A B Tm n) : Fair (letA A B hand page) (letB A B hand page) Tm n := by
  obtain ⟨e1, e2⟩ := prom_spec (qs := B page) (hs := lessH hand (A page))
  have ls : ∀ q ∈ lessH hand (A page), q ∈ A page := fun q hq => (List.mem_filter.mp hq).1
  have sl : Sole (lessH hand (A page)) := fun ⟨q, hq, hq2⟩ => Nat.le_trans (List.length_filter_le _ _) (f.sole page ⟨q, ls q hq, hq2⟩)
  have pf := fun (q : HB) (r : List HB) => prom_front (qs := B page) (hs := lessH hand (A page)) (q := q) (r := r)
  have ps := sole_prom (qs := B page) sl
  have od := f.ord page
  have inB : ∀ q, (q ∈ (prom (lessH hand (A page)) (B page)).2.2 ∨ q ∈ (prom (lessH hand (A page)) (B page)).2.1) → q ∈ B page := fun q h => by rw [e2]; exact List.mem_append.mpr h
  rw [e2, List.map_append] at od
  obtain ⟨od1, od2, od3⟩ := List.pairwise_append.mp od
  have inA : ∀ q, q ∈ (prom (lessH hand (A page)) (B page)).1 → q ∈ A page ∨ q ∈ (prom (lessH hand (A page)) (B page)).2.2 := fun q h => by
    rw [e1] at h
    exact (List.mem_append.mp h).imp (ls q) id
  unfold letA letB letP
  refine ⟨fun p q hq => ?_, fun p q hq => ?_, fun p => ?_, fun p a ha b hb => ?_, fun p => ?_, fun p q r e => ?_⟩
  · by_cases e : p = page
    · rw [e, fup_eq] at hq
      rw [e]
      exact (inA q hq).elim (f.ha page q) fun m => f.hb page q (inB q (.inl m))
    · rw [fup_ne e] at hq
      exact f.ha p q hq
  · by_cases e : p = page
    · rw [e, fup_eq] at hq
      rw [e]
      exact f.hb page q (inB q (.inr hq))
    · rw [fup_ne e] at hq
      exact f.hb p q hq
  · by_cases e : p = page
    · rw [e, fup_eq]
      exact od2
    · rw [fup_ne e]
      exact f.ord p
  · by_cases e : p = page
    · rw [e, fup_eq] at ha hb
      rw [e]
      rcases inA a ha with m | m
      · exact f.ab page a m b (inB b (.inr hb))
      · exact od3 _ (List.mem_map_of_mem (f := fun q : HB => Tm q.1 page) m) _ (List.mem_map_of_mem (f := fun q : HB => Tm q.1 page) hb)
    · rw [fup_ne e] at ha hb
      exact f.ab p a ha b hb
  · by_cases e : p = page
    · rw [e, fup_eq]
      exact ps
    · rw [fup_ne e]
      exact f.sole p
  · by_cases e2' : p = page
    · rw [e2', fup_eq] at e ⊢
      exact pf q r e
    · rw [fup_ne e2'] at e ⊢
      exact f.front p q r e
end K37

namespace K37
/-- in a ring's reach: in a finite set each of whose members points into it -/
def Core (g : Int → List Int) (ks : List Int) (x : Int) : Prop := ∃ S : List Int, x ∈ S ∧ ∀ y ∈ S, y ∈ ks ∧ ∃ z ∈ g y, z ∈ S
def peel (g : Int → List Int) (l : List Int) : List Int := l.filter fun x => (g x).any fun z => decide (z ∈ l)
theorem any_in {a b : List Int} : (a.any fun z => decide (z ∈ b)) = true ↔ ∃ z ∈ a, z ∈ b := by
  rw [List.any_eq_true]
  constructor
  · rintro ⟨z, h1, h2⟩; exact ⟨z, h1, of_decide_eq_true h2⟩
  · rintro ⟨z, h1, h2⟩; exact ⟨z, h1, decide_eq_true h2⟩
theorem mem_peel {g : Int → List Int} {l : List Int} {x : Int} : x ∈ peel g l ↔ x ∈ l ∧ ∃ z ∈ g x, z ∈ l := by
  unfold peel
  rw [List.mem_filter, any_in]
theorem core_in {g : Int → List Int} {ks : List Int} {x : Int} (h : Core g ks x) : x ∈ ks := by
  obtain ⟨S, h1, h2⟩ := h
  exact (h2 x h1).1
theorem core_next {g : Int → List Int} {ks : List Int} {x : Int} (h : Core g ks x) : ∃ z ∈ g x, Core g ks z := by
  obtain ⟨S, h1, h2⟩ := h
  obtain ⟨_, z, hz, zS⟩ := h2 x h1
  exact ⟨z, hz, S, zS, h2⟩
theorem core_peel {g : Int → List Int} {ks l : List Int} (h : ∀ x, Core g ks x → x ∈ l) : ∀ x, Core g ks x → x ∈ peel g l := fun x c => by
  obtain ⟨z, hz, cz⟩ := core_next c
  exact mem_peel.mpr ⟨h x c, z, hz, h z cz⟩
theorem core_fix {g : Int → List Int} {ks l : List Int} (h : ∀ x ∈ l, x ∈ ks) (f : ∀ x ∈ l, ∃ z ∈ g x, z ∈ l) : ∀ x ∈ l, Core g ks x := fun _ hx => ⟨l, hx, fun y hy => ⟨h y hy, f y hy⟩⟩
/-- a row that goes on and on within itself -/
def Chain (g : Int → List Int) (r : List Int) : Prop := ∀ i x y, r[i]? = some x → r[i + 1]? = some y → y ∈ g x
def RingOf (g : Int → List Int) (r : List Int) : Prop := r ≠ [] ∧ r.Nodup ∧ ∀ (i : Nat) x y, r[i]? = some x → (r.drop 1 ++ r.take 1)[i]? = some y → y ∈ g x
theorem chain_one {g : Int → List Int} {x : Int} : Chain g [x] := fun i a b _ h => by simp at h
theorem chain_snoc {g : Int → List Int} {r : List Int} {l y : Int} (c : Chain g r) (hl : r.getLast? = some l) (hy : y ∈ g l) : Chain g (r ++ [y]) := fun i a b h1 h2 => by
  have hi : i + 1 < (r ++ [y]).length := (List.getElem?_eq_some_iff.mp h2).1
  rw [List.length_append, List.length_singleton] at hi
  rw [List.getElem?_append_left (by omega)] at h1
  by_cases e : i + 1 < r.length
  · rw [List.getElem?_append_left e] at h2
    exact c i a b h1 h2
  · have e2 : i + 1 = r.length := by omega
    rw [e2, List.getElem?_append_right (Nat.le_refl _), Nat.sub_self] at h2
    rw [List.getLast?_eq_getElem?, ← e2, Nat.add_sub_cancel, h1] at hl
    cases hl
    cases h2
    exact hy
theorem ring_drop {g : Int → List Int} {r : List Int} {l : Int} {j : Nat} {a : Int} (c : Chain g r) (nd : r.Nodup) (hl : r.getLast? = some l) (hj : r[j]? = some a) (ha : a ∈ g l) : RingOf g (r.drop j) := by
  have hjl := (List.getElem?_eq_some_iff.mp hj).1
  refine ⟨fun e => ?_, nd.sublist (List.drop_sublist _ _), fun i x y h1 h2 => ?_⟩
  · have := congrArg List.length e
    rw [List.length_drop] at this
    have z : r.length - j = 0 := this
    omega
  · rw [List.getElem?_drop] at h1
    by_cases e : i + 1 < (r.drop j).length
    · rw [List.getElem?_append_left (by rw [List.length_drop]; omega), List.getElem?_drop, List.getElem?_drop, show j + (1 + i) = j + i + 1 by omega] at h2
      exact c _ _ _ h1 h2
    · have hi := (List.getElem?_eq_some_iff.mp h1).1
      rw [List.length_drop] at e
      have e2 : i = r.length - j - 1 := by omega
      rw [List.getElem?_append_right (by rw [List.length_drop, List.length_drop]; omega), List.length_drop, List.length_drop, e2, Nat.sub_self, List.getElem?_take, if_pos Nat.zero_lt_one, List.getElem?_drop, Nat.add_zero, hj] at h2
      rw [List.getLast?_eq_getElem?, show r.length - 1 = j + i by omega, h1] at hl
      cases hl
      cases h2
      exact ha
end K37

namespace K37
open PySem PySem.Spec PyProof.Rows L2 RZ HX TR RP AL
theorem anyK {X : Cx} (K : PySem.W.Frag) (hc : X.calm = true := by rfl) (h : X.K = K := by rfl) : CallR X (.builtin "any") (rAny K) := by
  subst h
  exact cr_any hc
/-- a dict of numbers, each with the list of those that it points to -/
structure NxAt (H : Hp) (l : Addr) (es : List (Int × Addr)) (g : Int → List Int) : Prop where
  hl : H l = some (.dK (es.map (ent V.ref)))
  nd : (es.map (·.1)).Nodup
  le : es.length ≤ 100
  eg : ∀ q ∈ es, H q.2 = some (.lst ((g q.1).map V.int))
  lg : ∀ q ∈ es, (g q.1).length ≤ 1000
theorem lock_back {H H' : Hp} {d : Addr} {od : Obj} {u : HO} (hd : H d = some u) (s : Same (upd H d (.frz od u)) H') : Same H (upd H' d u) := fun b o e => by
  by_cases c : b = d
  · rw [c, upd_same, ← hd, ← c, e]
  · rw [upd_ne c]
    exact s _ _ (by rw [upd_ne c]; exact e)
theorem ent_at {es : List (Int × Addr)} {i : Nat} {x y : V} (hi : i < es.length) (e1 : (((es.map (ent V.ref))[i]?).map fun kv => kV kv.1) = some x) (e2 : (((es.map (ent V.ref))[i]?).map Prod.snd) = some y) : x = kV (.inl es[i].1) ∧ y = .ref es[i].2 := by
  rw [List.getElem?_map, List.getElem?_eq_getElem hi] at e1 e2
  exact ⟨(Option.some.inj e1).symm, (Option.some.inj e2).symm⟩
theorem take_new {es : List (Int × Addr)} (nd : (es.map (·.1)).Nodup) {i : Nat} (hi : i < es.length) : es[i].1 ∉ (es.take i).map (·.1) := fun m => by
  rw [List.map_take] at m
  obtain ⟨j, hj⟩ := List.mem_iff_getElem?.mp m
  rw [List.getElem?_take] at hj
  by_cases c : j < i
  · rw [if_pos c] at hj
    have h2 : (es.map (·.1))[i]? = some es[i].1 := by rw [List.getElem?_map, List.getElem?_eq_getElem hi]; rfl
    have := (List.getElem?_inj (List.getElem?_eq_some_iff.mp hj).1 nd).mp (hj.trans h2.symm)
    omega
  · rw [if_neg c] at hj
    cases hj
def endsOf (g : Int → List Int) (ks : List Int) (es : List (Int × Addr)) : List Int := (es.filter fun q => !(g q.1).any fun z => decide (z ∈ ks)).map (·.1)
def leftOf (g : Int → List Int) (ks : List Int) (es : List (Int × Addr)) : List (Int × Addr) := es.filter fun q => (g q.1).any fun z => decide (z ∈ ks)
theorem some_in {es : List (Int × Addr)} {f : Addr → V} {z : Int} : (valV (es.map (ent f)) (.inl z)).isSome = decide (z ∈ es.map (·.1)) := by
  rw [val_ent]
  cases h : alk es z with
  | none => exact (decide_eq_false (alk_none.mp h)).symm
  | some a => exact (decide_eq_true (Classical.byContradiction fun n => by rw [alk_none.mpr n] at h; cases h)).symm
theorem not_ends {g : Int → List Int} {ks : List Int} {es : List (Int × Addr)} {q : Int × Addr} (hq : q ∈ es) : (!decide (q.1 ∈ endsOf g ks es)) = (g q.1).any fun z => decide (z ∈ ks) := by
  unfold endsOf
  cases hb : (g q.1).any fun z => decide (z ∈ ks) with
  | true =>
    rw [Bool.not_eq_true', decide_eq_false_iff_not]
    rintro m
    obtain ⟨r, hr, e⟩ := List.mem_map.mp m
    have z := (List.mem_filter.mp hr).2
    rw [e, hb] at z
    cases z
  | false =>
    rw [Bool.not_eq_false', decide_eq_true_eq]
    exact List.mem_map.mpr ⟨q, List.mem_filter.mpr ⟨hq, by rw [hb]; rfl⟩, rfl⟩
theorem left_peel {g : Int → List Int} {es : List (Int × Addr)} : (leftOf g (es.map (·.1)) es).map (·.1) = peel g (es.map (·.1)) := by
  unfold leftOf peel
  rw [List.filter_map]
  rfl
theorem ends_left {g : Int → List Int} {ks : List Int} : ∀ es : List (Int × Addr), (endsOf g ks es).length + (leftOf g ks es).length = es.length
  | [] => rfl
  | q :: es => by
    have ih := ends_left (g := g) (ks := ks) es
    unfold endsOf leftOf at ih ⊢
    rw [List.filter_cons, List.filter_cons]
    cases hb : (g q.1).any fun z => decide (z ∈ ks) with
    | true =>
      rw [if_neg (by simp), if_pos rfl, List.length_cons, List.length_cons]
      omega
    | false =>
      rw [if_pos (by simp), if_neg (by simp), List.map_cons, List.length_cons, List.length_cons]
      omega
section
variable {P : Program} {w : World} {K : PySem.W.Frag} {mg : Str → Option Value} {base : Heap}
def sp_ring_in : Sp := fun vs H Q _ => ∃ (n : Addr) (es : List (Int × Addr)) (g : Int → List Int), vs = [.ref n] ∧ NxAt H n es g ∧
  (∀ H', Same H H' → (∀ x, ¬ Core g (es.map (·.1)) x) → Q .non H') ∧ ∀ H' t r, Same H H' → RU.FzT H' t (r.map V.int) → RingOf g r → (∀ x ∈ r, Core g (es.map (·.1)) x) → Q (.ref t) H'
theorem ok_ring_in (T : TX K mg) : FnOk P w K mg base CX0 2 (He.ga K "ring_in") T.fd_ring_in ["nexts"] sp_ring_in := by
  refine T.F_ring_in.ok sc_ring_in (fun vs H Q E h => ?_) (fun cdv A outer st H vs Q E hr h => ?_)
  · obtain ⟨n, es, g, rfl, _⟩ := h
    rfl
  · obtain ⟨n, es0, g, rfl, x0, kN, kR⟩ := h
    refine ⟨_, PSs.nox (pss_cons (ps_set (i := 1) sc_ring_in.nd rfl (Or.inr rfl) (pe_lock (pe_dc (own := [("one", 5), ("others", 6)]) (g := gTup K 2 (gCons (gName 5) (gCons (gName 6) gNil))) (tt := tYes) rfl sc_ring_in.nd (pi_items (pv 0)) (blkOk_by (own := [("one", 5), ("others", 6)]) (N := ["nexts", "left", "ends", "row", "after", "one", "others", "other"]) (sc := defScope s_ring_in) (by decide +kernel)) (fun _ _ _ _ _ => (pg_tup rfl (pgs_cons (pg_name (i := 5) sc_ring_in.nd rfl (Or.inl rfl)) (pgs_cons (pg_name (i := 6) sc_ring_in.nd rfl (Or.inl rfl)) pgs_nil)))) (fun _ _ _ _ _ => pts_nil) (fun _ _ _ _ _ => (pv 5)) (fun _ _ _ _ _ => (pv 6)))))
 (pss_cons (ps_set (i := 2) sc_ring_in.nd rfl (Or.inr rfl) (pe_lst (pa_cons pe_non pa_nil)))
 (pss_cons (ps_while PassesOwn.never (pt_truth (pv 2) (by intro _; rfl))
 (pss_cons (ps_set (i := 2) sc_ring_in.nd rfl (Or.inr rfl) (pe_lock (pe_lc (own := [("one", 5), ("others", 6)]) (g := gTup K 2 (gCons (gName 5) (gCons (gName 6) gNil))) (tt := _) rfl sc_ring_in.nd (pi_items (pv 1)) (blkOk_by (own := [("one", 5), ("others", 6)]) (N := ["nexts", "left", "ends", "row", "after", "one", "others", "other"]) (sc := defScope s_ring_in) (by decide +kernel)) (fun _ _ _ _ _ => (pg_tup rfl (pgs_cons (pg_name (i := 5) sc_ring_in.nd rfl (Or.inl rfl)) (pgs_cons (pg_name (i := 6) sc_ring_in.nd rfl (Or.inl rfl)) pgs_nil)))) (fun _ _ _ _ _ => pts_one (pt_not (pt_val (pe_callB (anyK K) rfl T.n_any (by decide +kernel) (pa_cons (pe_lc (own := [("other", 7)]) (g := gName 7) (tt := tYes) rfl sc_ring_in.nd (RP.pi_lstK K (pv 6)) (blkOk_by (own := [("other", 7)]) rfl) (fun _ _ _ _ _ => (pg_name (i := 7) sc_ring_in.nd rfl (Or.inl rfl))) (fun _ _ _ _ _ => pts_nil) (fun _ _ _ _ _ => (pe_cmp (pc_din (hu_of hr) (pv 7) (pv 1)) rfl))) pa_nil))))) (fun _ _ _ _ _ => (pv 5)))))
 (pss_one (ps_set (i := 1) sc_ring_in.nd rfl (Or.inr rfl) (pe_lock (pe_dc (own := [("one", 5), ("others", 6)]) (g := gTup K 2 (gCons (gName 5) (gCons (gName 6) gNil))) (tt := _) rfl sc_ring_in.nd (pi_items (pv 1)) (blkOk_by (own := [("one", 5), ("others", 6)]) (N := ["nexts", "left", "ends", "row", "after", "one", "others", "other"]) (sc := defScope s_ring_in) (by decide +kernel)) (fun _ _ _ _ _ => (pg_tup rfl (pgs_cons (pg_name (i := 5) sc_ring_in.nd rfl (Or.inl rfl)) (pgs_cons (pg_name (i := 6) sc_ring_in.nd rfl (Or.inl rfl)) pgs_nil)))) (fun _ _ _ _ _ => pts_one (pt_cmpR (EQT.notInK K) (pv 5) (pv 2) rfl)) (fun _ _ _ _ _ => (pv 5)) (fun _ _ _ _ _ => (pv 6))))))))
 (pss_cons (ps_if (pt_not (pt_truth (pv 1) (by intro _; rfl)))
 (pss_one (ps_ret pe_non))
 pss_nil)
 (pss_cons (ps_set (i := 3) sc_ring_in.nd rfl (Or.inl rfl) (pe_lst (pa_cons (pe_callB (cr_min rfl) rfl T.n_min (by decide +kernel) (pa_cons (pe_callTy (call_listD rfl) rfl T.n_list (by decide +kernel) (pa_cons (pv 1) pa_nil)) pa_nil)) pa_nil)))
 (pss_one (ps_while PassesOwn.never (pt_val pe_bl)
 (pss_cons (ps_set (i := 4) sc_ring_in.nd rfl (Or.inl rfl) (pe_callB (cr_min rfl) rfl T.n_min (by decide +kernel) (pa_cons (pe_lc (own := [("other", 7)]) (g := gName 7) (tt := _) rfl sc_ring_in.nd (pi_list (pe_dget (hu_of hr) (pv 1) (pe_ix ix_list (pv 3) (pe_un un_neg pe_int) (fun _ _ => rfl)) (fun _ _ => rfl))) (blkOk_by (own := [("other", 7)]) (N := ["nexts", "left", "ends", "row", "after", "one", "others", "other"]) (sc := defScope s_ring_in) (by decide +kernel)) (fun _ _ _ _ _ => (pg_name (i := 7) sc_ring_in.nd rfl (Or.inl rfl))) (fun _ _ _ _ _ => pts_one (pt_cmp (pc_din (hu_of hr) (pv 7) (pv 1)))) (fun _ _ _ _ _ => (pv 7))) pa_nil)))
 (pss_cons (ps_if (pt_cmpR op_in_seq (pv 4) (pv 3) rfl)
 (pss_one (ps_ret (pe_callTy RU.call_tupF rfl T.n_tuple (by decide +kernel) (pa_cons (pe_slice sl_list (pv 3) (po_some (pe_bm PySem.F.plainAttrs_list PySem.F.slot_list_index PySem.F.type_list_index mt_index (pv 3) (pa_cons (pv 4) pa_nil))) po_none) pa_nil))))
 pss_nil)
 (pss_one (ps_expr (pe_bm PySem.F.plainAttrs_list PySem.F.slot_list_append PySem.F.type_list_append mt_append (pv 3) (pa_cons (pv 4) pa_nil))))))))))))), ?_⟩
    refine ⟨n, _, x0.hl, trivial, fun od => ?_⟩
    -- the copy
    refine ⟨_, rfl, n, od, _, rfl, upd_same, fun D hD => ?_⟩
    have sD := same_new (o := .dK []) hD
    have hDD : upd (upd H n (.frz od (.dK (es0.map (ent V.ref))))) D (.dK []) D = some (.dK []) := upd_same
    have Dn : D ≠ n := fun z => by rw [z, upd_same] at hD; cases hD
    have hDH : H D = none := by rw [upd_ne Dn] at hD; exact hD
    have le0 := x0.le
    refine RU.out_it walk_items (fun i H' => Same (upd H n (.frz od (.dK (es0.map (ent V.ref))))) H' ∧ H' D = some (.dK ((es0.take i).map (ent V.ref)))) ⟨sD, hDD⟩ (fun i H' _ z => z.1 _ _ upd_same) ?_ ?_
    · rintro i v H1 H2 hi ⟨s1, hD1⟩ ⟨t, x, y, rfl, ht, rfl, e1, e2⟩
      rw [List.length_map] at hi
      obtain ⟨ex, ey⟩ := ent_at hi e1 e2
      have s2 := same_new (o := .tup [x, y]) ht
      refine ⟨t, _, rfl, .inl (.inl upd_same), rfl, ?_⟩
      refine ⟨_, _, rfl, _, _, rfl, rfl, ?_⟩
      refine ⟨rfl, ?_⟩
      dsimp only [tYes]
      refine iteT ⟨_, rfl, _, rfl, _, .inl es0[i].1, ex, s2 _ _ hD1, by rw [List.length_map, List.length_take]; unfold sizeLine; omega, same_upd (s1.trans s2) hD, ?_⟩
      rw [upd_same, ey, put_ent, aput_new (alk_none.mpr (take_new x0.nd hi)), List.take_add_one, List.getElem?_eq_getElem hi]
      rfl
    · rintro H1 ⟨s1, hD1⟩
      rw [List.length_map, List.take_length] at hD1
      refine ⟨s1 _ _ upd_same, ?_⟩
      have s2 := lock_back x0.hl s1
      have hD2 : upd H1 n (.dK (es0.map (ent V.ref))) D = some (.dK (es0.map (ent V.ref))) := by rw [upd_ne Dn]; exact hD1
      generalize upd H1 n (.dK (es0.map (ent V.ref))) = H2 at s2 hD2
      refine ⟨by show 1 ≤ sizeLine; decide, fun e he => ?_⟩
      have s3 := same_new (o := .lst [.non]) he
      have he3 : upd H2 e (.lst [.non]) e = some (.lst [.non]) := upd_same
      have hD3 := s3 _ _ hD2
      generalize upd H2 e (.lst [.non]) = H3 at s3 he3 hD3
      have x3 : NxAt H3 D es0 g := ⟨hD3, x0.nd, x0.le, fun q hq => s3 _ _ (s2 _ _ (x0.eg q hq)), x0.lg⟩
      have s03 := s2.trans s3
      refine ⟨fun m σ H' => ∃ (l e : Addr) (es : List (Int × Addr)) (ends : List V), σ = [some (.ref n), some (.ref l), some (.ref e), none, none, none, none, none] ∧ Same H H' ∧ NxAt H' l es g ∧ (∀ q ∈ es, q ∈ es0) ∧ (∀ x, Core g (es0.map (·.1)) x → x ∈ es.map (·.1)) ∧ H' e = some (.lst ends) ∧ (ends = [] → ∀ x ∈ es.map (·.1), ∃ z ∈ g x, z ∈ es.map (·.1)) ∧ m = 2 * es.length + ends.length.min 1, ⟨_, D, e, es0, _, rfl, s03, x3, fun _ h => h, fun x c => core_in c, he3, (fun z => by cases z), rfl⟩, ?_⟩
      clear he3 hD3 s03 x3 s2 s3 hD2 s1 hD1 he
      rintro m σ H4 ⟨l, e, es, ends, rfl, s4, x4, sub4, core4, he4, fin4, rfl⟩
      refine ⟨_, rfl, _, .inl ⟨_, SqL.of he4, rfl⟩, ?_⟩
      cases ends with
      | nil =>
        refine iteF ?_
        have fin := fin4 rfl
        refine ⟨_, rfl, _, .inr (.inr ⟨_, x4.hl, rfl⟩), ?_⟩
        cases es with
        | nil =>
          refine iteT ?_
          exact kN _ s4 fun x c => by cases core4 x c
        | cons q0 es1 =>
          refine iteF ?_
          generalize ees : q0 :: es1 = es at x4 sub4 core4 fin4 fin
          have ne : es ≠ [] := by rw [← ees]; exact nofun
          have core : ∀ x ∈ es.map (·.1), Core g (es0.map (·.1)) x := core_fix (fun x hx => by
            obtain ⟨q, hq, e⟩ := List.mem_map.mp hx
            rw [← e]
            exact List.mem_map_of_mem (sub4 q hq)) fin
          refine ⟨_, rfl, l, _, rfl, .inl x4.hl, fun p hp => ?_⟩
          have s5 := same_new (o := .lst ((es.map (ent V.ref)).map fun kv => kV kv.1)) hp
          have hp5 : upd H4 p (.lst ((es.map (ent V.ref)).map fun kv => kV kv.1)) p = some (.lst ((es.map (·.1)).map V.int)) := by
            rw [upd_same, List.map_map, List.map_map]
            rfl
          generalize upd H4 p (.lst ((es.map (ent V.ref)).map fun kv => kV kv.1)) = H5 at s5 hp5 ⊢
          refine ⟨p, es.map (·.1), rfl, SqL.of hp5, by rw [List.length_map]; exact List.length_pos_iff.mpr ne, fun m hm _ => ⟨by show 1 ≤ sizeLine; decide, fun r hr => ?_⟩⟩
          have s6 := same_new (o := .lst [.int m]) hr
          have hr6 : upd H5 r (.lst [.int m]) r = some (.lst ([m].map V.int)) := upd_same
          have x6 : NxAt (upd H5 r (.lst [.int m])) l es g := ⟨s6 _ _ (s5 _ _ x4.hl), x4.nd, x4.le, fun q hq => s6 _ _ (s5 _ _ (x4.eg q hq)), x4.lg⟩
          have s06 := (s4.trans s5).trans s6
          have rH : H r = none := none_of (s4.trans s5) hr
          generalize upd H5 r (.lst [.int m]) = H6 at hr6 x6 s06 ⊢
          clear s5 s6 hp5 x4 s4
          refine ⟨fun k σ H' => ∃ (row : List Int) (v4 : Option V), σ = [some (.ref n), some (.ref l), some (.ref e), some (.ref r), v4, none, none, none] ∧ Same H H' ∧ NxAt H' l es g ∧ H' r = some (.lst (row.map V.int)) ∧ row ≠ [] ∧ row.Nodup ∧ (∀ x ∈ row, x ∈ es.map (·.1)) ∧ Chain g row ∧ k + row.length = es.length, ⟨es.length - 1, [m], _, rfl, s06, x6, hr6, nofun, List.nodup_cons.mpr ⟨List.not_mem_nil, List.nodup_nil⟩, fun x hx => by rw [List.mem_singleton.mp hx]; exact hm, chain_one, by have := List.length_pos_iff.mpr ne; show es.length - 1 + 1 = _; omega⟩, ?_⟩
          rintro k σ H7 ⟨row, v4, rfl, s7, x7, hr7, nr, nd7, sub7, ch7, ek⟩
          refine ⟨true, rfl, iteT ⟨_, fun _ _ h => h, ?_⟩⟩
          obtain ⟨last, hlast⟩ : ∃ y, row.getLast? = some y := by
            cases h : row.getLast? with
            | none => exact absurd (List.getLast?_eq_none_iff.mp h) nr
            | some y => exact ⟨y, rfl⟩
          have ml := sub7 last (List.mem_of_getLast? hlast)
          obtain ⟨ql, hql, eql⟩ := List.mem_map.mp ml
          have lr : row.length = row.length - 1 + 1 := by have := List.length_pos_iff.mpr nr; omega
          refine ⟨_, rfl, _, rfl, 1, rfl, r, _, -1, .int last, rfl, rfl, SqL.of hr7, at_last (n := row.length - 1) (by rw [List.length_map]; exact lr) (by rw [List.getElem?_map, ← List.getLast?_eq_getElem?, hlast]; rfl), l, .ref ql.2, rfl, ?_, ?_⟩
          · have z := DGet.k (k := .inl last) x7.hl
            rw [val_ent, ← eql, mem_alk x7.nd hql] at z
            rw [← eql]
            exact z
          have gq := x7.eg ql hql
          have lq := x7.lg ql hql
          rw [eql] at gq lq
          refine ⟨ql.2, rfl, ⟨_, SqL.of gq⟩, fun D hD => ?_⟩
          have sD := same_new (o := .lst []) hD
          have et : ∀ (j : Nat) (z : Int), (g last)[j]? = some z → ((g last).take (j + 1)).filter (fun z => decide (z ∈ es.map (·.1))) = ((g last).take j).filter (fun z => decide (z ∈ es.map (·.1))) ++ [z].filter (fun z => decide (z ∈ es.map (·.1))) := fun j z hz => by
            rw [List.take_add_one, hz, List.filter_append]
            rfl
          refine RU.out_it (walk_list (xs := (g last).map V.int)) (fun j H' => Same H7 H' ∧ H' D = some (.lst ((((g last).take j).filter fun z => decide (z ∈ es.map (·.1))).map V.int))) ⟨sD, upd_same⟩ (fun j H' _ z => SqL.of (z.1 _ _ gq)) ?_ ?_
          · rintro j y H8 H9 hj ⟨s8, hD8⟩ ⟨rfl, hy⟩
            obtain ⟨z, hz, rfl⟩ := map_at hy
            refine ⟨rfl, ?_⟩
            refine ⟨_, rfl, _, rfl, l, _, rfl, DGet.k (k := .inl z) (s8 _ _ x7.hl), ?_⟩
            rw [some_in]
            refine ⟨_, rfl, ?_⟩
            have small : (((g last).take j).filter fun z => decide (z ∈ es.map (·.1))).length ≤ 1000 := by
              have h1 := List.length_filter_le (fun z => decide (z ∈ es.map (·.1))) ((g last).take j)
              rw [List.length_take] at h1
              omega
            have eo : [z].filter (fun z => decide (z ∈ es.map (·.1))) = if decide (z ∈ es.map (·.1)) = true then [z] else [] := by
              rw [List.filter_cons]
              rfl
            rw [et j z hz]
            cases hb : decide (z ∈ es.map (·.1)) with
            | true =>
              rw [hb, if_pos rfl] at eo
              refine iteT ⟨_, rfl, _, hD8, by rw [List.length_map]; unfold sizeLine; omega, same_upd s8 hD, ?_⟩
              rw [upd_same, eo, List.map_append]
              rfl
            | false =>
              rw [hb, if_neg Bool.false_ne_true] at eo
              refine iteF ⟨s8, ?_⟩
              rw [eo, List.append_nil]
              exact hD8
          · rintro H8 ⟨s8, hD8⟩
            rw [List.length_map, List.take_length] at hD8
            obtain ⟨z0, hz0, kz0⟩ := fin last ml
            refine ⟨D, _, rfl, SqL.of hD8, List.length_pos_of_mem (List.mem_filter.mpr ⟨hz0, decide_eq_true kz0⟩), fun a ha _ => ?_⟩
            obtain ⟨ga, ka⟩ := List.mem_filter.mp ha
            have ka := of_decide_eq_true ka
            have hr8 := s8 _ _ hr7
            refine ⟨_, rfl, _, rfl, r, _, rfl, .inl (SqL.of hr8), rfl, flat_ints _, ?_⟩
            have e9 : (if false = true then !inV (V.int a) (row.map V.int) else inV (V.int a) (row.map V.int)) = decide (a ∈ row) := inV_ints
            rw [e9]
            refine ⟨_, rfl, ?_⟩
            have lrow : row.length ≤ 100 := by have := x7.le; omega
            by_cases c : a ∈ row
            · rw [decide_eq_true c]
              refine iteT ?_
              obtain ⟨j, hj⟩ := List.mem_iff_getElem?.mp c
              have hjl := (List.getElem?_eq_some_iff.mp hj).1
              refine ⟨_, rfl, _, rfl, .inl ⟨rfl, _, SqL.of hr8⟩, _, rfl, r, _, .int a, j, .int a, rfl, rfl, SqL.of hr8, rfl, flat_ints _, by rw [List.getElem?_map, hj]; rfl, by simp [eqV], fun m z hm hz => ?_, ?_⟩
              · rw [List.getElem?_map] at hz
                cases hrm : row[m]? with
                | none => rw [hrm] at hz; cases hz
                | some b =>
                  rw [hrm] at hz
                  cases hz
                  show eqV (.int b) (.int a) = false
                  have nb : b ≠ a := fun z => by
                    rw [z] at hrm
                    have := (List.getElem?_inj (List.getElem?_eq_some_iff.mp hrm).1 nd7).mp (hrm.trans hj.symm)
                    omega
                  simp [eqV, nb]
              · refine ⟨_, rfl, r, _, rfl, SqL.of hr8, fun p hp => ?_⟩
                rw [cut_from (by rw [List.length_map]; omega)]
                have s9 := same_new (o := .lst ((row.map V.int).drop j)) hp
                have hp9 : upd H8 p (.lst ((row.map V.int).drop j)) p = some (.lst ((row.map V.int).drop j)) := upd_same
                refine ⟨p, _, rfl, SqL.of hp9, fun t o ht ho => ?_⟩
                have s10 := same_new (o := .frz o (.tup ((row.map V.int).drop j))) ht
                refine kR _ t (row.drop j) (((s7.trans s8).trans s9).trans s10) ?_ (ring_drop ch7 nd7 hlast hj ga) fun x hx => core x (sub7 x (List.mem_of_mem_drop hx))
                rw [List.map_drop]
                exact ⟨o, upd_same, ho⟩
            · rw [decide_eq_false c]
              refine iteF ?_
              refine ⟨_, rfl, .inl ⟨rfl, _, SqL.of hr8⟩, _, rfl, r, _, _, rfl, rfl, hr8, by rw [List.length_map]; unfold sizeLine; omega, ?_⟩
              have nd8 : (row ++ [a]).Nodup := List.nodup_append.mpr ⟨nd7, List.nodup_cons.mpr ⟨List.not_mem_nil, List.nodup_nil⟩, fun x hx y hy z => c (by rw [List.mem_singleton.mp hy] at z; rw [← z]; exact hx)⟩
              have sub8 : ∀ x ∈ row ++ [a], x ∈ es.map (·.1) := fun x hx => (List.mem_append.mp hx).elim (sub7 x) fun h => by rw [List.mem_singleton.mp h]; exact ka
              have l8 := sub_len nd8 sub8
              rw [List.length_append, List.length_map] at l8
              have l8' : row.length + 1 ≤ es.length := l8
              have rr : ∀ b o, H b = some o → b ≠ r := fun b o e z => by rw [z, rH] at e; cases e
              refine ⟨k - 1, by omega, row ++ [a], _, rfl, fun b o e => by rw [upd_ne (rr b o e)]; exact s8 _ _ (s7 _ _ e), ⟨?_, x7.nd, x7.le, fun q hq => ?_, x7.lg⟩, by rw [upd_same, List.map_append]; rfl, by simp, nd8, sub8, chain_snoc ch7 hlast ga, by rw [List.length_append]; show k - 1 + (row.length + 1) = _; omega⟩
              · rw [upd_ne (fun z => by have := x7.hl; rw [z, hr7] at this; cases this)]
                exact s8 _ _ x7.hl
              · have h1 := x7.eg q hq
                rw [upd_ne (rr _ _ (x0.eg q (sub4 q hq)))]
                exact s8 _ _ h1
      | cons u us =>
        refine iteT ⟨_, fun _ _ h => h, ?_⟩
        refine ⟨l, _, x4.hl, trivial, fun od => ?_⟩
        have hlf : upd H4 l (.frz od (.dK (es.map (ent V.ref)))) l = some (.frz od (.dK (es.map (ent V.ref)))) := upd_same
        have egf : ∀ q ∈ es, upd H4 l (.frz od (.dK (es.map (ent V.ref)))) q.2 = some (.lst ((g q.1).map V.int)) := fun q hq => by
          rw [upd_ne (fun z => by have := x4.eg q hq; rw [z, x4.hl] at this; cases this)]
          exact x4.eg q hq
        have back : ∀ {H' : Hp}, Same (upd H4 l (.frz od (.dK (es.map (ent V.ref))))) H' → Same H4 (upd H' l (.dK (es.map (ent V.ref)))) := fun s => lock_back x4.hl s
        have nof : ∀ {b : Addr}, upd H4 l (.frz od (.dK (es.map (ent V.ref)))) b = none → H4 b = none ∧ b ≠ l := fun {b} z => by
          have n : b ≠ l := fun c => by rw [c, upd_same] at z; cases z
          rw [upd_ne n] at z
          exact ⟨z, n⟩
        generalize upd H4 l (.frz od (.dK (es.map (ent V.ref)))) = Hf at hlf egf back nof ⊢
        have le4 := x4.le
        refine ⟨_, rfl, l, od, _, rfl, hlf, fun D hD => ?_⟩
        obtain ⟨hD4, Dl⟩ := nof hD
        have sD := same_new (o := .lst []) hD
        refine RU.out_it walk_items (fun i H' => Same Hf H' ∧ H' D = some (.lst ((endsOf g (es.map (·.1)) (es.take i)).map V.int))) ⟨sD, upd_same⟩ (fun i H' _ z => z.1 _ _ hlf) ?_ ?_
        · rintro i v H5 H6 hi ⟨s5, hD5⟩ ⟨t, x, y, rfl, ht, rfl, e1, e2⟩
          rw [List.length_map] at hi
          obtain ⟨rfl, rfl⟩ := ent_at hi e1 e2
          have s6 := same_new (o := .tup [kV (.inl es[i].1), .ref es[i].2]) ht
          have mi : es[i] ∈ es := List.getElem_mem hi
          refine ⟨t, _, rfl, .inl (.inl upd_same), rfl, ?_⟩
          refine ⟨_, _, rfl, _, _, rfl, rfl, ?_⟩
          refine ⟨rfl, ?_⟩
          have g6 := s6 _ _ (s5 _ _ (egf _ mi))
          have l6 := s6 _ _ (s5 _ _ hlf)
          have hD6 := s6 _ _ hD5
          have s56 := s5.trans s6
          have lgi := x4.lg _ mi
          generalize upd H5 t (.tup [kV (.inl es[i].1), .ref es[i].2]) = H6 at g6 l6 hD6 s56 ⊢
          have et : endsOf g (es.map (·.1)) (es.take (i + 1)) = endsOf g (es.map (·.1)) (es.take i) ++ endsOf g (es.map (·.1)) [es[i]] := by
            unfold endsOf
            rw [List.take_add_one, List.getElem?_eq_getElem hi, List.filter_append, List.map_append]
            rfl
          have small : (endsOf g (es.map (·.1)) (es.take i)).length ≤ 100 := by
            unfold endsOf
            have h1 := List.length_filter_le (fun q : Int × Addr => !(g q.1).any fun z => decide (z ∈ es.map (·.1))) (es.take i)
            rw [List.length_take] at h1
            rw [List.length_map]
            omega
          refine ⟨_, rfl, es[i].2, rfl, ⟨_, SqL.of g6⟩, fun D2 hD2 => ?_⟩
          have s7 := same_new (o := .lst []) hD2
          refine RU.out_it (walk_list (xs := (g es[i].1).map V.int)) (fun j H' => Same H6 H' ∧ H' D2 = some (.lst ((((g es[i].1).take j).map fun z => decide (z ∈ es.map (·.1))).map V.bl))) ⟨s7, upd_same⟩ (fun j H' _ z => SqL.of (z.1 _ _ g6)) ?_ ?_
          · rintro j y H7 H8 hj ⟨s8, hD8⟩ ⟨rfl, hy⟩
            obtain ⟨z, hz, rfl⟩ := map_at hy
            refine ⟨rfl, ?_⟩
            dsimp only [tYes]
            refine iteT ⟨_, rfl, _, rfl, l, _, rfl, .inl ⟨_, .inl z, .inr ⟨od, s8 _ _ l6⟩, rfl, rfl⟩, _, hD8, by rw [List.length_map, List.length_map, List.length_take]; unfold sizeLine; omega, same_upd s8 hD2, ?_⟩
            rw [upd_same, some_in, List.take_add_one, hz, List.map_append, List.map_append]
            rfl
          · rintro H7 ⟨s8, hD8⟩
            rw [List.length_map, List.take_length] at hD8
            refine ⟨D2, _, rfl, SqL.of hD8, ?_⟩
            refine ⟨_, rfl, ?_⟩
            have ea : ((g es[i].1).map fun z => decide (z ∈ es.map (·.1))).any id = (g es[i].1).any fun z => decide (z ∈ es.map (·.1)) := List.any_map
            have eo : endsOf g (es.map (·.1)) [es[i]] = if (!(g es[i].1).any fun z => decide (z ∈ es.map (·.1))) = true then [es[i].1] else [] := by
              unfold endsOf
              rw [List.filter_cons]
              split <;> rfl
            show if (!(((g es[i].1).map fun z => decide (z ∈ es.map (·.1))).any id)) = true then _ else _
            rw [ea]
            have hD7 := s8 _ _ hD6
            cases hb : (!(g es[i].1).any fun z => decide (z ∈ es.map (·.1))) with
            | true =>
              rw [hb, if_pos rfl] at eo
              refine iteT ⟨_, rfl, _, hD7, by rw [List.length_map]; unfold sizeLine; omega, same_upd (s56.trans s8) hD, ?_⟩
              rw [upd_same, et, eo, List.map_append]
              rfl
            | false =>
              rw [hb, if_neg Bool.false_ne_true] at eo
              refine iteF ⟨s56.trans s8, ?_⟩
              rw [et, eo, List.append_nil]
              exact hD7
        · rintro H5 ⟨s5, hD5⟩
          rw [List.length_map, List.take_length] at hD5
          have s45 := back s5
          have hD5' : upd H5 l (.dK (es.map (ent V.ref))) D = some (.lst ((endsOf g (es.map (·.1)) es).map V.int)) := by rw [upd_ne Dl]; exact hD5
          refine ⟨s5 _ _ hlf, ?_⟩
          generalize upd H5 l (.dK (es.map (ent V.ref))) = H6 at s45 hD5' ⊢
          clear hlf egf back nof sD hD5 s5 hD
          have hl6 := s45 _ _ x4.hl
          refine ⟨l, _, hl6, trivial, fun od2 => ?_⟩
          have hlf : upd H6 l (.frz od2 (.dK (es.map (ent V.ref)))) l = some (.frz od2 (.dK (es.map (ent V.ref)))) := upd_same
          have hef : upd H6 l (.frz od2 (.dK (es.map (ent V.ref)))) D = some (.lst ((endsOf g (es.map (·.1)) es).map V.int)) := by rw [upd_ne Dl]; exact hD5'
          have back : ∀ {H' : Hp}, Same (upd H6 l (.frz od2 (.dK (es.map (ent V.ref))))) H' → Same H6 (upd H' l (.dK (es.map (ent V.ref)))) := fun s => lock_back hl6 s
          have nof : ∀ {b : Addr}, upd H6 l (.frz od2 (.dK (es.map (ent V.ref)))) b = none → H6 b = none ∧ b ≠ l := fun {b} z => by
            have n : b ≠ l := fun c => by rw [c, upd_same] at z; cases z
            rw [upd_ne n] at z
            exact ⟨z, n⟩
          generalize upd H6 l (.frz od2 (.dK (es.map (ent V.ref)))) = Hf at hlf hef back nof ⊢
          refine ⟨_, rfl, l, od2, _, rfl, hlf, fun N hN => ?_⟩
          obtain ⟨hN4, Nl⟩ := nof hN
          have sN := same_new (o := .dK []) hN
          refine RU.out_it walk_items (fun i H' => Same Hf H' ∧ H' N = some (.dK ((leftOf g (es.map (·.1)) (es.take i)).map (ent V.ref)))) ⟨sN, upd_same⟩ (fun i H' _ z => z.1 _ _ hlf) ?_ ?_
          · rintro i v H7 H8 hi ⟨s7, hN7⟩ ⟨t, x, y, rfl, ht, rfl, e1, e2⟩
            rw [List.length_map] at hi
            obtain ⟨rfl, rfl⟩ := ent_at hi e1 e2
            have s8 := same_new (o := .tup [kV (.inl es[i].1), .ref es[i].2]) ht
            have mi : es[i] ∈ es := List.getElem_mem hi
            refine ⟨t, _, rfl, .inl (.inl upd_same), rfl, ?_⟩
            refine ⟨_, _, rfl, _, _, rfl, rfl, ?_⟩
            refine ⟨rfl, ?_⟩
            have e8 := s8 _ _ (s7 _ _ hef)
            have hN8 := s8 _ _ hN7
            have s78 := s7.trans s8
            generalize upd H7 t (.tup [kV (.inl es[i].1), .ref es[i].2]) = H8 at e8 hN8 s78 ⊢
            refine ⟨_, rfl, _, rfl, D, _, rfl, .inl (SqL.of e8), rfl, flat_ints _, ?_⟩
            have e9 : (if true = true then !inV (kV (Sum.inl es[i].1)) ((endsOf g (es.map (·.1)) es).map V.int) else inV (kV (Sum.inl es[i].1)) ((endsOf g (es.map (·.1)) es).map V.int)) = (g es[i].1).any fun z => decide (z ∈ es.map (·.1)) := (congrArg (! ·) inV_ints).trans (not_ends mi)
            rw [e9]
            have et : leftOf g (es.map (·.1)) (es.take (i + 1)) = leftOf g (es.map (·.1)) (es.take i) ++ leftOf g (es.map (·.1)) [es[i]] := by
              unfold leftOf
              rw [List.take_add_one, List.getElem?_eq_getElem hi, List.filter_append]
              rfl
            have eo : leftOf g (es.map (·.1)) [es[i]] = if ((g es[i].1).any fun z => decide (z ∈ es.map (·.1))) = true then [es[i]] else [] := by
              unfold leftOf
              rw [List.filter_cons]
              rfl
            refine ⟨_, rfl, ?_⟩
            cases hb : (g es[i].1).any fun z => decide (z ∈ es.map (·.1)) with
            | true =>
              rw [hb, if_pos rfl] at eo
              refine iteT ⟨_, rfl, _, rfl, _, .inl es[i].1, rfl, hN8, by rw [List.length_map]; have := List.length_filter_le (fun q : Int × Addr => (g q.1).any fun z => decide (z ∈ es.map (·.1))) (es.take i); rw [List.length_take] at this; unfold leftOf sizeLine; omega, same_upd s78 hN, ?_⟩
              have nw : alk (leftOf g (es.map (·.1)) (es.take i)) es[i].1 = none := alk_none.mpr fun m => take_new x4.nd hi (by
                obtain ⟨q, hq, e⟩ := List.mem_map.mp m
                rw [← e]
                exact List.mem_map_of_mem (List.mem_filter.mp hq).1)
              rw [upd_same, put_ent, aput_new nw, et, eo]
            | false =>
              rw [hb, if_neg Bool.false_ne_true] at eo
              refine iteF ⟨s78, ?_⟩
              rw [et, eo, List.append_nil]
              exact hN8
          · rintro H7 ⟨s7, hN7⟩
            rw [List.length_map, List.take_length] at hN7
            refine ⟨s7 _ _ hlf, ?_⟩
            have s67 := back s7
            have hN9 : upd H7 l (.dK (es.map (ent V.ref))) N = some (.dK ((leftOf g (es.map (·.1)) es).map (ent V.ref))) := by rw [upd_ne Nl]; exact hN7
            generalize upd H7 l (.dK (es.map (ent V.ref))) = H8 at s67 hN9 ⊢
            have sub : (leftOf g (es.map (·.1)) es).Sublist es := List.filter_sublist
            have lens := ends_left (g := g) (ks := es.map (·.1)) es
            refine ⟨_, ?_, N, D, leftOf g (es.map (·.1)) es, _, rfl, (s4.trans s45).trans s67, ⟨hN9, x4.nd.sublist (sub.map _), Nat.le_trans sub.length_le x4.le, fun q hq => s67 _ _ (s45 _ _ (x4.eg q (sub.subset hq))), fun q hq => x4.lg q (sub.subset hq)⟩, fun q hq => sub4 q (sub.subset hq), fun x c => by rw [left_peel]; exact core_peel core4 x c, s67 _ _ hD5', fun z => ?_, rfl⟩
            · rw [List.length_map]
              show 2 * (leftOf g (es.map (·.1)) es).length + min (endsOf g (es.map (·.1)) es).length 1 < 2 * es.length + min (us.length + 1) 1
              omega
            · have z2 : (endsOf g (es.map (·.1)) es).length = 0 := by
                have := congrArg List.length z
                rw [List.length_map] at this
                exact this
              have e : leftOf g (es.map (·.1)) es = es := sub.eq_of_length (by omega)
              intro x hx
              have hp := hx
              rw [left_peel] at hp
              rw [e]
              exact (mem_peel.mp hp).2
end
end K37

namespace K37
open PySem PySem.Spec PyProof.Rows L2 RZ HX TR RP AL
/-- where a hand stands in a queue; whether it asked for the page alone; whom it waits for -/
def idx (hand : Int) (qs : List HB) : Nat := qs.findIdx fun q => decide (q.1 = hand)
def loneAt (hand : Int) (qs : List HB) : Bool := ((qs[idx hand qs]?).map (·.2)).getD false
def blkOf (hand : Int) (hs qs : List HB) : List Int := ((hs ++ qs.take (idx hand qs)).filter fun q => loneAt hand qs || q.2).map (·.1)
def blk (A B : Int → List HB) (W : Int → Option Int) (hand : Int) : List Int := match W hand with
  | none => []
  | some p => blkOf hand (A p) (B p)
theorem idx_spec {hand : Int} : ∀ {qs : List HB}, hand ∈ qs.map (·.1) → ∃ l, qs[idx hand qs]? = some (hand, l) ∧ ∀ m q, m < idx hand qs → qs[m]? = some q → q.1 ≠ hand
  | [], h => by cases h
  | q :: qs, h => by
    unfold idx
    rw [List.findIdx_cons]
    by_cases c : q.1 = hand
    · rw [decide_eq_true c]
      exact ⟨q.2, by rw [← c]; rfl, fun m _ hm => absurd hm (Nat.not_lt_zero _)⟩
    · rw [decide_eq_false c]
      rw [List.map_cons] at h
      obtain ⟨l, h1, h2⟩ := idx_spec ((List.mem_cons.mp h).resolve_left fun e => c e.symm)
      refine ⟨l, h1, fun m r hm hr => ?_⟩
      cases m with
      | zero =>
        cases hr
        exact c
      | succ m => exact h2 m r (Nat.lt_of_succ_lt_succ hm) hr
/-- latches as they stood, but the table of who waits may be locked -/
structure LatR (K : PySem.W.Frag) (H : Hp) (s : Addr) (A B : Int → List HB) (W : Int → Option Int) (dx a b c : Addr) (ds ls : List (Int × Addr)) (ws : List (Int × Int)) : Prop where
  hs : H s = some (.ins (He.ga K "Latches") dx (lfs a b c))
  ha : H a = some (.dK (ds.map (ent V.ref)))
  hb : H b = some (.dK (ls.map (ent V.ref)))
  hc : Rd H c (.dK (ws.map (ent V.int)))
  dd : ∀ q ∈ ds, HdAt H q.2 (A q.1)
  dn : ∀ p, p ∉ ds.map (·.1) → A p = []
  ll : ∀ q ∈ ls, QuAt H q.2 (B q.1)
  ln : ∀ p, p ∉ ls.map (·.1) → B p = []
  wd : ∀ h, alk ws h = W h
theorem rd_same {H H' : Hp} {c : Addr} {u : HO} (s : Same H H') (h : Rd H c u) : Rd H' c u := h.imp (s _ _) fun ⟨o, e⟩ => ⟨o, s _ _ e⟩
theorem LatR.same {K : PySem.W.Frag} {H H' : Hp} {s : Addr} {A B : Int → List HB} {W : Int → Option Int} {dx a b c : Addr} {ds ls : List (Int × Addr)} {ws : List (Int × Int)} (x : LatR K H s A B W dx a b c ds ls ws) (sm : Same H H') : LatR K H' s A B W dx a b c ds ls ws :=
  ⟨sm _ _ x.hs, sm _ _ x.ha, sm _ _ x.hb, rd_same sm x.hc, fun q hq => sm _ _ (x.dd q hq), x.dn, fun q hq => by
      obtain ⟨xs, h1, h2⟩ := x.ll q hq
      exact ⟨xs, sm _ _ h1, paired_imp (fun _ _ r => HbAt.keep (Keep.of sm) r) h2⟩, x.ln, x.wd⟩
theorem items_row {H : Hp} : ∀ {ts : List Addr} {qs : List HB}, Paired (fun (t : Addr) (q : Key × V) => H t = some (.tup [kV q.1, q.2])) ts (qs.map (ent V.bl)) → Paired (HbAt H) (ts.map V.ref) qs
  | [], [], _ => .nil
  | _ :: _, _ :: _, .cons r rs => .cons ⟨_, rfl, r⟩ (items_row rs)
section
variable {P : Program} {w : World} {K : PySem.W.Frag} {mg : Str → Option Value} {base : Heap}
def sp_blockers (K : PySem.W.Frag) : Sp := fun vs H Q _ => ∃ (s : Addr) (A B : Int → List HB) (W : Int → Option Int) (dx a b c : Addr) (ds ls : List (Int × Addr)) (ws : List (Int × Int)) (PP HH : List Int) (hand : Int), vs = [.ref s, .int hand] ∧ LatR K H s A B W dx a b c ds ls ws ∧ Okk PP HH A B W ∧ (∀ p, B p ≠ [] → A p ≠ []) ∧
  ∀ H' r, Same H H' → H r = none → H' r = some (.lst ((blk A B W hand).map V.int)) → Q (.ref r) H'
theorem ok_blockers (T : TX K mg) : FnOk P w K mg base CX0 2 (He.ma K (He.ga K "Latches") "blockers") T.fd_Latches_blockers ["self", "hand"] (sp_blockers K) := by
  refine T.F_Latches_blockers.ok sc_Latches_blockers (fun vs H Q E h => ?_) (fun cdv A outer st H vs Q E hr h => ?_)
  · obtain ⟨s, A, B, W, dx, a, b, c, ds, ls, ws, PP, HH, hand, rfl, _⟩ := h
    rfl
  · obtain ⟨s, LA, LB, LW, dx, a, b, c, ds, ls, ws, PP, HH, hand, rfl, x, o, wt, kq⟩ := h
    refine ⟨_, PSs.nox (pss_cons (ps_if (pt_cmp (pc_dnotin (hu_of hr) (pv 1) (pe_fld (pv 0) rfl)))
 (pss_one (ps_ret (pe_lst pa_nil)))
 pss_nil)
 (pss_cons (ps_set (i := 2) sc_Latches_blockers.nd rfl (Or.inl rfl) (pe_dget (hu_of hr) (pe_fld (pv 0) rfl) (pv 1) (fun _ _ => rfl)))
 (pss_cons (ps_set (i := 3) sc_Latches_blockers.nd rfl (Or.inl rfl) (pe_dget (hu_of hr) (pe_fld (pv 0) rfl) (pv 2) (fun _ _ => rfl)))
 (pss_cons (ps_set (i := 4) sc_Latches_blockers.nd rfl (Or.inl rfl) (pe_bm PySem.F.plainAttrs_list PySem.F.slot_list_index PySem.F.type_list_index mt_index (pe_lc (own := [("one", 7), ("_", 9)]) (g := gTup K 2 (gCons (gName 7) (gCons (gName 9) gNil))) (tt := tYes) rfl sc_Latches_blockers.nd (pi_list (pv 3)) (blkOk_by (own := [("one", 7), ("_", 9)]) (N := ["self", "hand", "page", "line", "at", "alone", "ahead", "one", "sole", "_"]) (sc := defScope s_Latches_blockers) (by decide +kernel)) (fun _ _ _ _ _ => (pg_tup rfl (pgs_cons (pg_name (i := 7) sc_Latches_blockers.nd rfl (Or.inl rfl)) (pgs_cons (pg_name (i := 9) sc_Latches_blockers.nd rfl (Or.inl rfl)) pgs_nil)))) (fun _ _ _ _ _ => pts_nil) (fun _ _ _ _ _ => (pv 7))) (pa_cons (pv 1) pa_nil)))
 (pss_cons (ps_set (i := 5) sc_Latches_blockers.nd rfl (Or.inr rfl) (pe_ix ix_tup (pe_ix ix_list (pv 3) (pv 4) (fun _ _ => rfl)) pe_int (fun _ _ => rfl)))
 (pss_cons (ps_set (i := 6) sc_Latches_blockers.nd rfl (Or.inl rfl) (pe_op op_cat (LiI.pe_listItems rfl (pe_dget (hu_of hr) (pe_fld (pv 0) rfl) (pv 2) (fun _ _ => rfl)) rfl T.n_list (by decide +kernel)) (pe_slice sl_list (pv 3) po_none (po_some (pv 4)))))
 (pss_one (ps_ret (pe_lc (own := [("one", 7), ("sole", 8)]) (g := gTup K 2 (gCons (gName 7) (gCons (gName 8) gNil))) (tt := _) rfl sc_Latches_blockers.nd (pi_list (pv 6)) (blkOk_by (own := [("one", 7), ("sole", 8)]) (N := ["self", "hand", "page", "line", "at", "alone", "ahead", "one", "sole", "_"]) (sc := defScope s_Latches_blockers) (by decide +kernel)) (fun _ _ _ _ _ => (pg_tup rfl (pgs_cons (pg_name (i := 7) sc_Latches_blockers.nd rfl (Or.inl rfl)) (pgs_cons (pg_name (i := 8) sc_Latches_blockers.nd rfl (Or.inl rfl)) pgs_nil)))) (fun _ _ _ _ _ => pts_one (PW.pt (pw_or (pt_val (pv 5)) (pw_or1 (pt_val (pv 8)))))) (fun _ _ _ _ _ => (pv 7))))))))))), ?_⟩
    have gw : ∀ {H' : Hp}, Same H H' → DGet H' c (.int hand) ((LW hand).map V.int) := fun sm => .inl ⟨_, .inl hand, rd_same sm x.hc, rfl, by rw [val_ent, x.wd]⟩
    refine ⟨_, rfl, _, rfl, s, _, dx, _, _, rfl, x.hs, T.cl_Latches, T.na_Latches_wanted, lf_w, c, _, rfl, gw (Same.refl H), _, rfl, ?_⟩
    cases hw : LW hand with
    | none =>
      have eb : blk LA LB LW hand = [] := by unfold blk; rw [hw]
      refine iteT ⟨by show 0 ≤ sizeLine; decide, fun p hp => ?_⟩
      exact kq _ p (same_new hp) hp (by rw [eb]; exact upd_same)
    | some page =>
      have eb : blk LA LB LW hand = blkOf hand (LA page) (LB page) := by unfold blk; rw [hw]
      refine iteF ?_
      refine ⟨_, rfl, s, _, dx, _, _, rfl, x.hs, T.cl_Latches, T.na_Latches_wanted, lf_w, _, rfl, c, .int page, rfl, ?_, ?_⟩
      · have z := gw (Same.refl H)
        rw [hw] at z
        exact z
      have mh : hand ∈ (LB page).map (·.1) := (o.ww hand page).mp hw
      have nB : LB page ≠ [] := fun z => by rw [z] at mh; cases mh
      have nA := wt page nB
      obtain ⟨lone, hl1, hl2⟩ := idx_spec mh
      obtain ⟨ld, eld⟩ : ∃ ld, alk ls page = some ld := by
        cases z : alk ls page with
        | none => exact absurd (x.ln page (alk_none.mp z)) nB
        | some d => exact ⟨d, rfl⟩
      obtain ⟨hd, ehd⟩ : ∃ hd, alk ds page = some hd := by
        cases z : alk ds page with
        | none => exact absurd (x.dn page (alk_none.mp z)) nA
        | some d => exact ⟨d, rfl⟩
      obtain ⟨xs, hxs, hpx⟩ := x.ll _ (alk_mem eld)
      have hhd : H hd = some (.dK ((LA page).map (ent V.bl))) := x.dd _ (alk_mem ehd)
      have lx : xs.length = (LB page).length := hpx.length
      have bl := o.bl page
      have al := o.al page
      refine ⟨_, rfl, s, _, dx, _, _, rfl, x.hs, T.cl_Latches, T.na_Latches_lines, lf_l, _, rfl, b, .ref ld, rfl, ?_, ?_⟩
      · have z := DGet.k (k := .inl page) x.hb
        rw [val_ent, eld] at z
        exact z
      refine ⟨_, rfl, ld, rfl, ⟨_, SqL.of hxs⟩, fun D hD => ?_⟩
      have s1 := same_new (o := .lst []) hD
      refine RU.out_it (walk_list (xs := xs)) (fun i H' => Same H H' ∧ H' D = some (.lst ((((LB page).take i).map (·.1)).map V.int))) ⟨s1, upd_same⟩ (fun i H' _ z => SqL.of (z.1 _ _ hxs)) ?_ ?_
      · rintro i y H1 H2 hi ⟨s2, hD2⟩ ⟨rfl, hy⟩
        obtain ⟨q, hq, t, rfl, ht⟩ := pget1 hpx hy
        refine ⟨t, _, rfl, SqT.of (s2 _ _ ht), rfl, ?_⟩
        refine ⟨_, _, rfl, _, _, rfl, rfl, ?_⟩
        refine ⟨rfl, ?_⟩
        dsimp only [tYes]
        refine iteT ⟨_, rfl, _, hD2, by rw [List.length_map, List.length_map, List.length_take]; unfold sizeLine; omega, same_upd s2 hD, ?_⟩
        rw [upd_same, List.take_add_one, hq, List.map_append, List.map_append]
        rfl
      · rintro H1 ⟨s2, hD2⟩
        rw [lx, List.take_length] at hD2
        refine ⟨.inl ⟨rfl, _, SqL.of hD2⟩, _, rfl, D, _, .int hand, idx hand (LB page), .int hand, rfl, rfl, SqL.of hD2, rfl, flat_ints _, by rw [List.getElem?_map, List.getElem?_map, hl1]; rfl, by simp [eqV], fun m z hm hz => ?_, ?_⟩
        · rw [List.getElem?_map, List.getElem?_map] at hz
          cases hrm : (LB page)[m]? with
          | none => rw [hrm] at hz; cases hz
          | some r =>
            rw [hrm] at hz
            cases hz
            show eqV (.int r.1) (.int hand) = false
            simp [eqV, hl2 m r hm hrm]
        · have hil := (List.getElem?_eq_some_iff.mp hl1).1
          obtain ⟨tl, etl, htl⟩ : ∃ t, xs[idx hand (LB page)]? = some (.ref t) ∧ H t = some (.tup [.int hand, .bl lone]) := by
            have hix : idx hand (LB page) < xs.length := by omega
            obtain ⟨r, hr', t, e, ht⟩ := pget1 hpx (List.getElem?_eq_getElem hix)
            rw [hl1] at hr'
            cases hr'
            exact ⟨t, by rw [List.getElem?_eq_getElem hix, e], ht⟩
          refine ⟨_, rfl, _, rfl, ld, xs, _, _, rfl, rfl, SqL.of (s2 _ _ hxs), at_of (j := idx hand (LB page)) etl rfl, tl, _, _, _, rfl, rfl, SqT.of (s2 _ _ htl), rfl, ?_⟩
          refine ⟨_, rfl, s, _, dx, _, _, rfl, s2 _ _ x.hs, T.cl_Latches, T.na_Latches_holding, lf_h, _, rfl, a, .ref hd, rfl, ?_, hd, _, rfl, s2 _ _ hhd, fun H3 p ts s3 pn tn pts hp3 pr3 => ?_⟩
          · have z := DGet.k (k := .inl page) (s2 _ _ x.ha)
            rw [val_ent, ehd] at z
            exact z
          have s03 := s2.trans s3
          refine ⟨_, rfl, _, rfl, _, rfl, ld, xs, rfl, SqL.of (s03 _ _ hxs), fun p2 hp2 => ?_⟩
          rw [cut_to (by omega)]
          have s4 := same_new (o := .lst (xs.take (idx hand (LB page)))) hp2
          have hp24 : upd H3 p2 (.lst (xs.take (idx hand (LB page)))) p2 = some (.lst (xs.take (idx hand (LB page)))) := upd_same
          have s04 := s03.trans s4
          have hp4 := s4 _ _ hp3
          have pr4 : Paired (HbAt (upd H3 p2 (.lst (xs.take (idx hand (LB page)))))) (ts.map V.ref ++ xs.take (idx hand (LB page))) (LA page ++ (LB page).take (idx hand (LB page))) := by
            refine paired_app ?_ (paired_take _ (paired_imp (fun _ _ r => HbAt.keep (Keep.of s04) r) hpx))
            exact items_row (paired_imp (fun t q e => s4 _ _ e) pr3)
          generalize upd H3 p2 (.lst (xs.take (idx hand (LB page)))) = H4 at s4 hp24 s04 hp4 pr4 ⊢
          have lts : ts.length = (LA page).length := by rw [pr3.length, List.length_map]
          refine ⟨p, p2, _, _, rfl, rfl, hp4, hp24, by rw [List.length_map, List.length_take]; unfold sizeLine; omega, fun p3 hp3' => ?_⟩
          have s5 := same_new (o := .lst (ts.map V.ref ++ xs.take (idx hand (LB page)))) hp3'
          have hp5 : upd H4 p3 (.lst (ts.map V.ref ++ xs.take (idx hand (LB page)))) p3 = some (.lst (ts.map V.ref ++ xs.take (idx hand (LB page)))) := upd_same
          have pr5 := paired_imp (fun _ _ r => HbAt.keep (Keep.of s5) r) pr4
          have s05 := s04.trans s5
          generalize upd H4 p3 (.lst (ts.map V.ref ++ xs.take (idx hand (LB page)))) = H5 at s5 hp5 pr5 s05 ⊢
          have eq : blkOf hand (LA page) (LB page) = ((LA page ++ (LB page).take (idx hand (LB page))).filter fun q => lone || q.2).map (·.1) := by
            unfold blkOf loneAt
            rw [hl1]
            rfl
          rw [eb, eq] at kq
          have lrow : (LA page ++ (LB page).take (idx hand (LB page))).length ≤ 200 := by rw [List.length_append, List.length_take]; omega
          generalize ts.map V.ref ++ xs.take (idx hand (LB page)) = ys at hp5 pr5
          generalize LA page ++ (LB page).take (idx hand (LB page)) = qs at pr5 kq lrow
          clear pr4 hp4 hp24
          refine ⟨_, rfl, p3, rfl, ⟨_, SqL.of hp5⟩, fun R hR => ?_⟩
          have s6 := same_new (o := .lst []) hR
          have HR : H R = none := none_of s05 hR
          refine RU.out_it (walk_list (xs := ys)) (fun i H' => Same H5 H' ∧ H' R = some (.lst ((((qs.take i).filter fun q => lone || q.2).map (·.1)).map V.int))) ⟨s6, upd_same⟩ (fun i H' _ z => SqL.of (z.1 _ _ hp5)) ?_ ?_
          · rintro i y H6 H7 hi ⟨s7, hR7⟩ ⟨rfl, hy⟩
            obtain ⟨q, hq, t, rfl, ht⟩ := pget1 pr5 hy
            have et : (qs.take (i + 1)).filter (fun q => lone || q.2) = (qs.take i).filter (fun q => lone || q.2) ++ if (lone || q.2) = true then [q] else [] := by
              rw [List.take_add_one, hq, List.filter_append]
              show _ ++ [q].filter (fun q => lone || q.2) = _
              rw [List.filter_cons]
              rfl
            have small : ((qs.take i).filter fun q => lone || q.2).length ≤ 200 := by
              have h1 := List.length_filter_le (fun q : HB => lone || q.2) (qs.take i)
              rw [List.length_take] at h1
              omega
            refine ⟨t, _, rfl, SqT.of (s7 _ _ ht), rfl, ?_⟩
            refine ⟨_, _, rfl, _, _, rfl, rfl, ?_⟩
            refine ⟨rfl, ?_⟩
            rw [et]
            refine ⟨_, rfl, lone, rfl, ?_⟩
            have yes : ∀ {b : Bool}, b = true → Same H5 (upd H7 R (.lst ((((qs.take i).filter fun q => lone || q.2).map (·.1)).map V.int ++ [.int q.1]))) ∧ upd H7 R (.lst ((((qs.take i).filter fun q => lone || q.2).map (·.1)).map V.int ++ [.int q.1])) R = some (.lst ((((qs.take i).filter fun q => lone || q.2) ++ if b = true then [q] else []).map (·.1) |>.map V.int)) := fun {b} e => by
              refine ⟨same_upd s7 hR, ?_⟩
              rw [upd_same, if_pos e, List.map_append, List.map_append]
              rfl
            have sz : ((((qs.take i).filter fun q => lone || q.2).map (·.1)).map V.int).length < sizeLine := by rw [List.length_map, List.length_map]; unfold sizeLine; omega
            cases lone with
            | true => exact iteT (iteT ⟨_, rfl, _, hR7, sz, yes rfl⟩)
            | false =>
              refine iteF ⟨_, rfl, q.2, rfl, ?_⟩
              cases hq2 : q.2 with
              | true => exact iteT ⟨_, rfl, _, hR7, sz, yes rfl⟩
              | false =>
                refine iteF ⟨s7, ?_⟩
                rw [if_neg (by simp), List.append_nil]
                exact hR7
          · rintro H6 ⟨s7, hR7⟩
            rw [show ys.length = qs.length from pr5.length, List.take_length] at hR7
            exact kq _ R (s05.trans s7) HR hR7
end
end K37

namespace K37
open PySem PySem.Spec PyProof.Rows L2 RZ HX TR RP AL
theorem rel_core {g : Int → List Int} {ks ks' : List Int} (h : ∀ x, x ∈ ks → x ∈ ks') {x : Int} (c : Core g ks x) : Core g ks' x := by
  obtain ⟨S, h1, h2⟩ := c
  exact ⟨S, h1, fun y hy => ⟨h y (h2 y hy).1, (h2 y hy).2⟩⟩
theorem blk_len {PP HH : List Int} {A B : Int → List HB} {W : Int → Option Int} (o : Okk PP HH A B W) (h : Int) : (blk A B W h).length ≤ 200 := by
  unfold blk
  cases W h with
  | none => exact Nat.zero_le _
  | some p =>
    show (blkOf h (A p) (B p)).length ≤ 200
    unfold blkOf
    rw [List.length_map]
    have h1 := List.length_filter_le (fun q : HB => loneAt h (B p) || q.2) (A p ++ (B p).take (idx h (B p)))
    rw [List.length_append, List.length_take] at h1
    have := o.al p
    have := o.bl p
    omega
theorem take_newI {α : Type} {es : List (Int × α)} (nd : (es.map (·.1)).Nodup) {i : Nat} (hi : i < es.length) : es[i].1 ∉ (es.take i).map (·.1) := fun m => by
  rw [List.map_take] at m
  obtain ⟨j, hj⟩ := List.mem_iff_getElem?.mp m
  rw [List.getElem?_take] at hj
  by_cases c : j < i
  · rw [if_pos c] at hj
    have h2 : (es.map (·.1))[i]? = some es[i].1 := by rw [List.getElem?_map, List.getElem?_eq_getElem hi]; rfl
    have := (List.getElem?_inj (List.getElem?_eq_some_iff.mp hj).1 nd).mp (hj.trans h2.symm)
    omega
  · rw [if_neg c] at hj
    cases hj
def waiting (W : Int → Option Int) (HH : List Int) : List Int := HH.filter fun h => (W h).isSome
theorem mem_waiting {PP HH : List Int} {A B : Int → List HB} {W : Int → Option Int} (o : Okk PP HH A B W) {h : Int} : h ∈ waiting W HH ↔ W h ≠ none := by
  unfold waiting
  rw [List.mem_filter]
  constructor
  · rintro ⟨_, z⟩ e
    rw [e] at z
    cases z
  · intro n
    cases e : W h with
    | none => exact absurd e n
    | some p =>
      obtain ⟨q, hq, eq⟩ := List.mem_map.mp ((o.ww h p).mp e)
      exact ⟨by rw [← eq]; exact o.hb p q hq, rfl⟩
section
variable {P : Program} {w : World} {K : PySem.W.Frag} {mg : Str → Option Value} {base : Heap}
def sp_ring (K : PySem.W.Frag) : Sp := fun vs H Q _ => ∃ (s : Addr) (F : List Addr) (A B : Int → List HB) (W : Int → Option Int) (PP HH : List Int), vs = [.ref s] ∧ Lat K H s F A B W ∧ Okk PP HH A B W ∧ (∀ p, B p ≠ [] → A p ≠ []) ∧
  ∀ ks : List Int, (∀ h, h ∈ ks ↔ W h ≠ none) → (∀ H', Same H H' → (∀ x, ¬ Core (blk A B W) ks x) → Q .non H') ∧ ∀ H' t r, Same H H' → RU.FzT H' t (r.map V.int) → RingOf (blk A B W) r → (∀ x ∈ r, Core (blk A B W) ks x) → Q (.ref t) H'
theorem ok_ring (T : TX K mg) : FnOk P w K mg base CX0 4 (He.ma K (He.ga K "Latches") "ring") T.fd_Latches_ring ["self"] (sp_ring K) := by
  have G_ring_in : FnOk P w K mg base CX0 2 (He.ga K "ring_in") T.fd_ring_in ["nexts"] sp_ring_in := ok_ring_in T
  have b_ring_in := b_ring_in T
  have G_Latches_blockers : FnOk P w K mg base CX0 2 (He.ma K (He.ga K "Latches") "blockers") T.fd_Latches_blockers ["self", "hand"] (sp_blockers K) := ok_blockers T
  have b_Latches_blockers := b_Latches_blockers T
  refine T.F_Latches_ring.ok sc_Latches_ring (fun vs H Q E h => ?_) (fun cdv A outer st H vs Q E hr h => ?_)
  · obtain ⟨s, F, A, B, W, PP, HH, rfl, _⟩ := h
    rfl
  · obtain ⟨s, F, LA, LB, LW, PP, HH, rfl, ⟨dx, a, b, c, ds, ls, ws, x, ne1, ne2⟩, o, wt, kq⟩ := h
    refine ⟨_, PSs.nox (pss_one (ps_ret (pe_call G_ring_in (hr.mono (by first | decide | omega)) rfl T.g_ring_in T.F_ring_in.kp b_ring_in .nil pass0 (pa_cons (pe_lock (pe_dc (own := [("hand", 1)]) (g := gName 1) (tt := tYes) rfl sc_Latches_ring.nd (pi_keys (pe_fld (pv 0) rfl)) (blkOk_by (own := [("hand", 1)]) (N := ["self", "hand"]) (sc := defScope s_Latches_ring) (by decide +kernel)) (fun _ _ _ _ _ => (pg_name (i := 1) sc_Latches_ring.nd rfl (Or.inl rfl))) (fun _ _ _ _ _ => pts_nil) (fun _ _ _ _ _ => (pv 1)) (fun _ _ _ _ _ => (pe_meth (pv 0) T.cl_Latches T.m_Latches_blockers G_Latches_blockers (hr.mono (by first | decide | omega)) b_Latches_blockers .nil pass0 (pa_cons (pv 1) pa_nil))))) pa_nil)))), ?_⟩
    have wl := x.wl o
    have ap := x.apart
    obtain ⟨kN, kR⟩ := kq (ws.map (·.1)) fun h => by
      rw [← x.wd, ne_eq, alk_none, Classical.not_not]
    refine ⟨c, _, x.hc, trivial, fun od => ?_⟩
    have ne_c : ∀ {y : Addr} {u : HO}, H y = some u → u ≠ .dK (ws.map (ent V.int)) ∨ y ≠ c → y ≠ c := fun {y u} e n z => by
      rcases n with n | n
      · rw [z, x.hc] at e
        exact n (Option.some.inj e).symm
      · exact n z
    have keepN : ∀ {y : Addr} {u : HO}, y ≠ c → H y = some u → upd H c (.frz od (.dK (ws.map (ent V.int)))) y = some u := fun n e => by rw [upd_ne n]; exact e
    have xr : LatR K (upd H c (.frz od (.dK (ws.map (ent V.int))))) s LA LB LW dx a b c ds ls ws := by
      have nf := x.nf
      rw [x.f] at nf
      have inF : ∀ y ∈ ds.map (·.2) ++ ls.map (·.2), y ≠ c := fun y hy z => by
        rw [List.nodup_cons, List.nodup_cons, List.nodup_cons, List.nodup_cons] at nf
        rw [z] at hy
        exact nf.2.2.2.1 hy
      refine ⟨keepN ap.sc x.hs, keepN ap.ac x.ha, keepN ap.bc x.hb, .inr ⟨od, upd_same⟩, fun q hq => keepN (inF _ (List.mem_append_left _ (List.mem_map_of_mem hq))) (x.dd q hq), x.dn, fun q hq => ?_, x.ln, x.wd⟩
      obtain ⟨xs, h1, h2⟩ := x.ll q hq
      refine ⟨xs, keepN (inF _ (List.mem_append_right _ (List.mem_map_of_mem hq))) h1, paired_imp (fun y r hr' => ?_) h2⟩
      obtain ⟨t, e, ht⟩ := hr'
      exact ⟨t, e, keepN (fun z => by rw [z, x.hc] at ht; cases ht) ht⟩
    have hcf : upd H c (.frz od (.dK (ws.map (ent V.int)))) c = some (.frz od (.dK (ws.map (ent V.int)))) := upd_same
    have back : ∀ {H' : Hp}, Same (upd H c (.frz od (.dK (ws.map (ent V.int))))) H' → Same H (upd H' c (.dK (ws.map (ent V.int)))) := fun s => lock_back x.hc s
    have nof : ∀ {y : Addr}, upd H c (.frz od (.dK (ws.map (ent V.int)))) y = none → H y = none ∧ y ≠ c := fun {y} z => by
      have n : y ≠ c := fun e => by rw [e, upd_same] at z; cases z
      rw [upd_ne n] at z
      exact ⟨z, n⟩
    generalize upd H c (.frz od (.dK (ws.map (ent V.int)))) = Hf at xr hcf back nof ⊢
    refine ⟨_, rfl, s, _, dx, _, _, rfl, xr.hs, T.cl_Latches, T.na_Latches_wanted, lf_w, c, od, rfl, .inl ⟨_, hcf, fun D hD => ?_⟩⟩
    obtain ⟨hDH, Dc⟩ := nof hD
    have sD := same_new (o := .dK []) hD
    refine RU.out_it walk_keys (fun i H' => Same Hf H' ∧ ∃ es : List (Int × Addr), H' D = some (.dK (es.map (ent V.ref))) ∧ es.map (·.1) = (ws.take i).map (·.1) ∧ ∀ q ∈ es, q.2 ≠ c ∧ H' q.2 = some (.lst ((blk LA LB LW q.1).map V.int))) ⟨sD, [], upd_same, rfl, (fun _ h => nomatch h)⟩ (fun i H' _ z => z.1 _ _ hcf) ?_ ?_
    · rintro i v H1 H2 hi ⟨s1, es, hD1, ek, he⟩ ⟨rfl, k, u, ev, rfl⟩
      rw [List.length_map] at hi
      rw [List.getElem?_map, List.getElem?_eq_getElem hi] at ev
      cases ev
      have x1 := xr.same s1
      have lz := congrArg List.length ek
      rw [List.length_map, List.length_map, List.length_take] at lz
      have nw : ws[i].1 ∉ es.map (·.1) := by
        rw [ek]
        exact take_newI x.nw hi
      refine ⟨rfl, ?_⟩
      dsimp only [tYes]
      refine iteT ⟨_, rfl, _, rfl, s, dx, _, rfl, x1.hs, rfl, _, rfl, s, LA, LB, LW, dx, a, b, c, ds, ls, ws, PP, HH, ws[i].1, rfl, x1, o, wt, fun H3 r s3 hr3 hrl => ?_⟩
      have hD3 := s3 _ _ hD1
      have rD : r ≠ D := fun z => by rw [z, hD1] at hr3; cases hr3
      have rc : r ≠ c := fun z => by rw [z, s1 _ _ hcf] at hr3; cases hr3
      refine ⟨_, .inl ws[i].1, rfl, hD3, by rw [List.length_map]; unfold sizeLine; omega, same_upd (s1.trans s3) hD, es ++ [(ws[i].1, r)], ?_, ?_, fun q hq => ?_⟩
      · rw [upd_same, put_ent, aput_new (alk_none.mpr nw)]
      · rw [List.map_append, ek, List.take_add_one, List.getElem?_eq_getElem hi, List.map_append]
        rfl
      · rcases List.mem_append.mp hq with m | m
        · have h1 := (he q m).2
          exact ⟨(he q m).1, by rw [upd_ne (fun z => by rw [z, hD1] at h1; cases h1)]; exact s3 _ _ h1⟩
        · rw [List.mem_singleton.mp m]
          exact ⟨rc, by rw [upd_ne rD]; exact hrl⟩
    · rintro H1 ⟨s1, es, hD1, ek, he⟩
      rw [List.length_map, List.take_length] at ek
      refine ⟨s1 _ _ hcf, ?_⟩
      have s0 := back s1
      have lz := congrArg List.length ek
      rw [List.length_map, List.length_map] at lz
      have nx : NxAt (upd H1 c (.dK (ws.map (ent V.int)))) D es (blk LA LB LW) := ⟨by rw [upd_ne Dc]; exact hD1, by rw [ek]; exact x.nw, by omega, fun q hq => by rw [upd_ne (he q hq).1]; exact (he q hq).2, fun q _ => Nat.le_trans (blk_len o q.1) (by omega)⟩
      refine ⟨D, es, _, rfl, nx, fun H' s' hc => ?_, fun H' t r s' fz hr1 hr2 => ?_⟩
      · rw [ek] at hc
        exact kN _ (s0.trans s') hc
      · rw [ek] at hr2
        exact kR _ t r (s0.trans s') fz hr1 hr2
end
end K37

namespace K37
open PySem PySem.Spec PyProof.Rows L2 RZ HX TR RP AL
/-- each waits for one of them -/
def Stuck (A B : Int → List HB) (W : Int → Option Int) (S : List Int) : Prop := ∀ y ∈ S, W y ≠ none ∧ ∃ z ∈ blk A B W y, z ∈ S
def NoR (A B : Int → List HB) (W : Int → Option Int) : Prop := ∀ S, Stuck A B W S → S = []
theorem idx_le0 {hand : Int} {qs : List HB} {j : Nat} {q : HB} (h : qs[j]? = some q) (e : q.1 = hand) : idx hand qs ≤ j := by
  apply Classical.byContradiction
  intro c
  obtain ⟨l, _, h2⟩ := idx_spec (hand := hand) (qs := qs) (List.mem_map.mpr ⟨q, List.mem_of_getElem? h, e⟩)
  exact h2 j q (by omega) h e
theorem row_same {qs : List HB} (nd : (qs.map (·.1)).Nodup) {y : Int} {l : Bool} {r : HB} (h1 : (y, l) ∈ qs) (h2 : r ∈ qs) (e : y = r.1) : l = r.2 := by
  obtain ⟨i, hi⟩ := List.mem_iff_getElem?.mp h1
  obtain ⟨j, hj⟩ := List.mem_iff_getElem?.mp h2
  have a : (qs.map (·.1))[i]? = some y := by rw [List.getElem?_map, hi]; rfl
  have b : (qs.map (·.1))[j]? = some y := by rw [List.getElem?_map, hj, e]; rfl
  have := (List.getElem?_inj (List.getElem?_eq_some_iff.mp a).1 nd).mp (a.trans b.symm)
  rw [this, hj] at hi
  cases hi
  rfl
theorem idx_left {y : Int} {G R : List HB} (h : y ∈ G.map (·.1)) : idx y (G ++ R) = idx y G := by
  obtain ⟨l, h1, h2⟩ := idx_spec h
  have hl := (List.getElem?_eq_some_iff.mp h1).1
  have hm : y ∈ (G ++ R).map (·.1) := by rw [List.map_append]; exact List.mem_append_left _ h
  obtain ⟨l', h3, h4⟩ := idx_spec hm
  have a : idx y (G ++ R) ≤ idx y G := idx_le0 (q := (y, l)) (by rw [List.getElem?_append_left hl]; exact h1) rfl
  have b : idx y G ≤ idx y (G ++ R) := idx_le0 (q := (y, l')) (by
    rw [List.getElem?_append_left (by omega)] at h3
    exact h3) rfl
  omega
theorem idx_right {y : Int} {G R : List HB} (n : y ∉ G.map (·.1)) (h : y ∈ R.map (·.1)) : idx y (G ++ R) = G.length + idx y R := by
  obtain ⟨l, h1, h2⟩ := idx_spec h
  have hm : y ∈ (G ++ R).map (·.1) := by rw [List.map_append]; exact List.mem_append_right _ h
  obtain ⟨l', h3, h4⟩ := idx_spec hm
  have a : idx y (G ++ R) ≤ G.length + idx y R := idx_le0 (q := (y, l)) (by rw [List.getElem?_append_right (by omega), show G.length + idx y R - G.length = idx y R by omega]; exact h1) rfl
  have c : G.length ≤ idx y (G ++ R) := Nat.le_of_not_lt fun c => by
    rw [List.getElem?_append_left c] at h3
    exact n (List.mem_map.mpr ⟨_, List.mem_of_getElem? h3, rfl⟩)
  have b : idx y R ≤ idx y (G ++ R) - G.length := idx_le0 (q := (y, l')) (by
    rw [List.getElem?_append_right c] at h3
    exact h3) rfl
  omega
theorem lone_left {y : Int} {G R : List HB} (h : y ∈ G.map (·.1)) : loneAt y (G ++ R) = loneAt y G := by
  unfold loneAt
  rw [idx_left h, List.getElem?_append_left (by
    obtain ⟨l, h1, _⟩ := idx_spec h
    exact (List.getElem?_eq_some_iff.mp h1).1)]
theorem lone_right {y : Int} {G R : List HB} (n : y ∉ G.map (·.1)) (h : y ∈ R.map (·.1)) : loneAt y (G ++ R) = loneAt y R := by
  unfold loneAt
  rw [idx_right n h, List.getElem?_append_right (by omega), show G.length + idx y R - G.length = idx y R by omega]
theorem blkOf_mem {y z : Int} {hs qs : List HB} : z ∈ blkOf y hs qs ↔ ∃ q : HB, q.1 = z ∧ (q ∈ hs ∨ ∃ j, j < idx y qs ∧ qs[j]? = some q) ∧ (loneAt y qs || q.2) = true := by
  unfold blkOf
  rw [List.mem_map]
  constructor
  · rintro ⟨q, hq, e⟩
    obtain ⟨h1, h2⟩ := List.mem_filter.mp hq
    refine ⟨q, e, ?_, h2⟩
    rcases List.mem_append.mp h1 with m | m
    · exact .inl m
    · obtain ⟨j, hj⟩ := List.mem_iff_getElem?.mp m
      rw [List.getElem?_take] at hj
      by_cases c : j < idx y qs
      · rw [if_pos c] at hj
        exact .inr ⟨j, c, hj⟩
      · rw [if_neg c] at hj
        cases hj
  · rintro ⟨q, e, m, h2⟩
    refine ⟨q, List.mem_filter.mpr ⟨?_, h2⟩, e⟩
    rcases m with m | ⟨j, hj, hq⟩
    · exact List.mem_append_left _ m
    · refine List.mem_append_right _ (List.mem_iff_getElem?.mpr ⟨j, ?_⟩)
      rw [List.getElem?_take, if_pos hj]
      exact hq
theorem blkOf_app {y : Int} {hs G R : List HB} (h : y ∈ G.map (·.1)) : blkOf y hs (G ++ R) = blkOf y hs G := by
  unfold blkOf
  rw [lone_left h, idx_left h, List.take_append_of_le_length (by
    obtain ⟨l, h1, _⟩ := idx_spec h
    exact Nat.le_of_lt (List.getElem?_eq_some_iff.mp h1).1)]
theorem blk_at {A B : Int → List HB} {W : Int → Option Int} {y p : Int} (h : W y = some p) : blk A B W y = blkOf y (A p) (B p) := by
  unfold blk
  rw [h]
theorem stuck_take {P HH : List Int} {A B : Int → List HB} {W : Int → Option Int} {S : List Int} {hand page : Int} {lone : Bool} (o : Okk P HH A B W) (st : Stuck A B W S) (hw : W hand = none) : Stuck (takeA A B hand page lone) (takeB A B hand page lone) (takeW A B W hand page lone) S ∧ ∀ y ∈ S, takeW A B W hand page lone y = W y := by
  have eW : ∀ y ∈ S, takeW A B W hand page lone y = W y := fun y hy => by
    unfold takeW
    split
    · rfl
    · exact fup_ne fun e => (st y hy).1 (by rw [e]; exact hw)
  refine ⟨fun y hy => ?_, eW⟩
  obtain ⟨n, z, hz, zS⟩ := st y hy
  refine ⟨by rw [eW y hy]; exact n, z, ?_, zS⟩
  cases hy' : W y with
  | none => exact absurd hy' n
  | some p =>
    rw [blk_at hy'] at hz
    rw [blk_at ((eW y hy).trans hy')]
    have mB := (o.ww y p).mp hy'
    unfold takeA takeB
    by_cases c : atOnce A B page lone = true
    · rw [if_pos c, if_pos c, fup_ne (fun e => by
        unfold atOnce at c
        have := List.isEmpty_iff.mp (Bool.and_eq_true_iff.mp c).1
        rw [e, this] at mB
        cases mB)]
      exact hz
    · rw [if_neg c, if_neg c]
      by_cases e : p = page
      · rw [e, fup_eq]
        rw [e] at hz mB
        rw [blkOf_app mB]
        exact hz
      · rw [fup_ne e]
        exact hz
/-- who is given a page fits beside all that hold it -/
theorem prom_fits : ∀ {qs hs : List HB} {r q : HB}, r ∈ (prom hs qs).2.2 → q ∈ hs → r.2 = false ∧ q.2 = false
  | [], _, _, _, h, _ => by cases h
  | q0 :: qs, hs, r, q, h, hq => by
    unfold prom at h
    by_cases c : fits hs q0.2 = true
    · rw [if_pos c] at h
      rcases List.mem_cons.mp h with e | h
      · rcases fits_cases.mp c with z | ⟨z1, z2⟩
        · rw [z] at hq; cases hq
        · exact ⟨by rw [e]; exact z1, z2 q hq⟩
      · exact prom_fits h (List.mem_append_left _ hq)
    · rw [if_neg c] at h
      cases h
theorem let_parts {A B : Int → List HB} {hand page : Int} : ∃ G R, (letP A B hand page).2.2 = G ∧ letA A B hand page = fup A page (lessH hand (A page) ++ G) ∧ letB A B hand page = fup B page R ∧ B page = G ++ R ∧ (∀ r ∈ G, ∀ q ∈ lessH hand (A page), r.2 = false ∧ q.2 = false) := by
  obtain ⟨e1, e2⟩ := prom_spec (qs := B page) (hs := lessH hand (A page))
  refine ⟨(letP A B hand page).2.2, (letP A B hand page).2.1, rfl, ?_, rfl, e2, fun r hr q hq => prom_fits hr hq⟩
  unfold letA
  exact congrArg (fup A page) e1
theorem stuck_let {P HH : List Int} {A B : Int → List HB} {W : Int → Option Int} {S : List Int} {hand page : Int} (o : Okk P HH A B W) (st : Stuck A B W S) (hw : W hand = none) : Stuck (letA A B hand page) (letB A B hand page) (letW A B W hand page) S ∧ ∀ y ∈ S, letW A B W hand page y = W y := by
  obtain ⟨G, R, eG, eA, eB, eQ, ft⟩ := let_parts (A := A) (B := B) (hand := hand) (page := page)
  have less : ∀ {q : HB}, q ∈ A page → q.1 ≠ hand → q ∈ lessH hand (A page) := fun {q} m n => List.mem_filter.mpr ⟨m, decide_eq_true n⟩
  have main : ∀ n y, idx y (B page) = n → y ∈ S → W y = some page → y ∉ G.map (·.1) ∧ ∃ z ∈ blkOf y (lessH hand (A page) ++ G) R, z ∈ S := by
    intro n
    induction n using Nat.strongRecOn with
    | _ n ih =>
      intro y en hy wy
      have mB := (o.ww y page).mp wy
      obtain ⟨_, z, hz, zS⟩ := st y hy
      rw [blk_at wy] at hz
      obtain ⟨q, eq, hor, hl⟩ := blkOf_mem.mp hz
      have fin : y ∉ G.map (·.1) → (q ∈ lessH hand (A page) ∨ ∃ j, j < idx y (B page) ∧ (B page)[j]? = some q) → ∃ z ∈ blkOf y (lessH hand (A page) ++ G) R, z ∈ S := fun nG h => by
        rw [eQ, List.map_append] at mB
        have mR := (List.mem_append.mp mB).resolve_left nG
        rw [eQ, lone_right nG mR] at hl
        refine ⟨z, blkOf_mem.mpr ⟨q, eq, ?_, hl⟩, zS⟩
        rcases h with m | ⟨j, hj, hq⟩
        · exact .inl (List.mem_append_left _ m)
        · rw [eQ, idx_right nG mR] at hj
          rw [eQ] at hq
          by_cases c : j < G.length
          · rw [List.getElem?_append_left c] at hq
            exact .inl (List.mem_append_right _ (List.mem_of_getElem? hq))
          · rw [List.getElem?_append_right (by omega)] at hq
            exact .inr ⟨j - G.length, by omega, hq⟩
      rcases hor with m | ⟨j, hj, hq⟩
      · have nz : q.1 ≠ hand := fun e => (st z zS).1 (by rw [← eq, e]; exact hw)
        have ml := less m nz
        have nG : y ∉ G.map (·.1) := fun mG => by
          obtain ⟨r, hr, er⟩ := List.mem_map.mp mG
          obtain ⟨f1, f2⟩ := ft r hr q ml
          have el : loneAt y (B page) = r.2 := by
            obtain ⟨l, h1, _⟩ := idx_spec mB
            unfold loneAt
            rw [h1]
            show l = r.2
            have rB : r ∈ B page := by rw [eQ]; exact List.mem_append_left _ hr
            exact row_same (o.nb page) (List.mem_of_getElem? h1) rB er.symm
          rw [el, f1, f2] at hl
          cases hl
        exact ⟨nG, fin nG (.inl ml)⟩
      · have wz : W z = some page := (o.ww z page).mpr (List.mem_map.mpr ⟨q, List.mem_of_getElem? hq, eq⟩)
        have jz := idx_le0 hq eq
        obtain ⟨nGz, _⟩ := ih (idx z (B page)) (by omega) z rfl zS wz
        have nG : y ∉ G.map (·.1) := fun mG => by
          have e1 : idx y (B page) = idx y G := by rw [eQ]; exact idx_left mG
          obtain ⟨l, h1, _⟩ := idx_spec mG
          have hl' := (List.getElem?_eq_some_iff.mp h1).1
          rw [eQ, List.getElem?_append_left (by omega)] at hq
          exact nGz (List.mem_map.mpr ⟨q, List.mem_of_getElem? hq, eq⟩)
        exact ⟨nG, fin nG (.inr ⟨j, hj, hq⟩)⟩
  have eW : ∀ y ∈ S, letW A B W hand page y = W y := fun y hy => by
    unfold letW noW
    rw [eG]
    refine if_neg fun m => ?_
    have wy : W y = some page := (o.ww y page).mpr (by rw [eQ, List.map_append]; exact List.mem_append_left _ m)
    exact (main _ y rfl hy wy).1 m
  refine ⟨fun y hy => ?_, eW⟩
  obtain ⟨n, z, hz, zS⟩ := st y hy
  refine ⟨by rw [eW y hy]; exact n, ?_⟩
  cases hy' : W y with
  | none => exact absurd hy' n
  | some p =>
    rw [blk_at ((eW y hy).trans hy'), eA, eB]
    by_cases e : p = page
    · rw [e, fup_eq, fup_eq]
      exact (main _ y rfl hy (by rw [hy', e])).2
    · rw [fup_ne e, fup_ne e]
      rw [blk_at hy'] at hz
      exact ⟨z, hz, zS⟩
theorem nor_let {P HH : List Int} {A B : Int → List HB} {W : Int → Option Int} {hand page : Int} (o : Okk P HH A B W) (nr : NoR A B W) : NoR (letA A B hand page) (letB A B hand page) (letW A B W hand page) := fun S st => nr S fun y hy => by
  obtain ⟨G, R, eG, eA, eB, eQ, _⟩ := let_parts (A := A) (B := B) (hand := hand) (page := page)
  obtain ⟨n, z, hz, zS⟩ := st y hy
  cases hy' : letW A B W hand page y with
  | none => exact absurd hy' n
  | some p =>
    have hy2 : W y = some p ∧ y ∉ G.map (·.1) := by
      unfold letW noW at hy'
      rw [eG] at hy'
      by_cases c : y ∈ G.map (·.1)
      · rw [if_pos c] at hy'; cases hy'
      · rw [if_neg c] at hy'; exact ⟨hy', c⟩
    obtain ⟨wy, nG⟩ := hy2
    refine ⟨by rw [wy]; exact nofun, z, ?_, zS⟩
    rw [blk_at hy', eA, eB] at hz
    rw [blk_at wy]
    by_cases e : p = page
    · rw [e, fup_eq, fup_eq] at hz
      rw [e]
      have mB := (o.ww y page).mp (by rw [wy, e])
      rw [eQ, List.map_append] at mB
      have mR := (List.mem_append.mp mB).resolve_left nG
      obtain ⟨q, eq, hor, hl⟩ := blkOf_mem.mp hz
      rw [eQ]
      refine blkOf_mem.mpr ⟨q, eq, ?_, by rw [lone_right nG mR]; exact hl⟩
      rcases hor with m | ⟨j, hj, hq⟩
      · rcases List.mem_append.mp m with m | m
        · exact .inl (List.mem_filter.mp m).1
        · obtain ⟨j, hj⟩ := List.mem_iff_getElem?.mp m
          have hl' := (List.getElem?_eq_some_iff.mp hj).1
          exact .inr ⟨j, by rw [idx_right nG mR]; omega, by rw [List.getElem?_append_left hl']; exact hj⟩
      · exact .inr ⟨G.length + j, by rw [idx_right nG mR]; omega, by rw [List.getElem?_append_right (by omega), show G.length + j - G.length = j by omega]; exact hq⟩
    · rw [fup_ne e, fup_ne e] at hz
      exact hz
/-- who doesn't wait holds nothing -/
def Idle (A : Int → List HB) (W : Int → Option Int) (hs : List Int) : Prop := ∀ h ∈ hs, W h = none → ∀ q, h ∉ (A q).map (·.1)
theorem stuck_all {P HH : List Int} {A B : Int → List HB} {W : Int → Option Int} {Tm : Int → Int → Int} {n : Int} (o : Okk P HH A B W) (f : Fair A B Tm n) (id : Idle A W HH) : Stuck A B W (waiting W HH) := fun y hy => by
  have wy := (mem_waiting o).mp hy
  refine ⟨wy, ?_⟩
  cases hw : W y with
  | none => exact absurd hw wy
  | some p =>
    rw [blk_at hw]
    have mB := (o.ww y p).mp hw
    have holds : ∀ q ∈ A p, q.1 ∈ waiting W HH := fun q hq => (mem_waiting o).mpr fun e => id q.1 (o.ha p q hq) e p (List.mem_map_of_mem hq)
    have waits : ∀ q ∈ B p, q.1 ∈ waiting W HH := fun q hq => (mem_waiting o).mpr (by rw [(o.ww q.1 p).mpr (List.mem_map_of_mem hq)]; exact nofun)
    cases hb : B p with
    | nil => rw [hb] at mB; cases mB
    | cons q0 r =>
      have fr := f.front p q0 r hb
      obtain ⟨l, h1, _⟩ := idx_spec mB
      have el : loneAt y (B p) = l := by unfold loneAt; rw [h1]; rfl
      by_cases c : ∃ q ∈ A p, (l || q.2) = true
      · obtain ⟨q, hq, hl⟩ := c
        exact ⟨q.1, blkOf_mem.mpr ⟨q, rfl, .inl hq, by rw [← hb, el]; exact hl⟩, holds q hq⟩
      · have nA : A p ≠ [] := fun z => by
          rw [z] at fr
          cases fr
        obtain ⟨q, hq⟩ := List.exists_mem_of_ne_nil _ nA
        have hl : l = false := Bool.eq_false_iff.mpr fun z => c ⟨q, hq, by rw [z]; rfl⟩
        have al : ∀ q ∈ A p, q.2 = false := fun q hq => Bool.eq_false_iff.mpr fun z => c ⟨q, hq, by rw [z]; exact Bool.or_true _⟩
        have q0t : q0.2 = true := by
          cases h0 : q0.2 with
          | true => rfl
          | false =>
            have : fits (A p) q0.2 = true := fits_cases.mpr (.inr ⟨h0, al⟩)
            rw [fr] at this
            cases this
        have z0 : 0 < idx y (B p) := Nat.pos_of_ne_zero fun z => by
          rw [z, hb] at h1
          cases h1
          rw [hl] at q0t
          cases q0t
        refine ⟨q0.1, blkOf_mem.mpr ⟨q0, rfl, .inr ⟨0, by rw [← hb]; exact z0, rfl⟩, by rw [q0t]; exact Bool.or_true _⟩, waits q0 (by rw [hb]; exact List.mem_cons_self ..)⟩
theorem filter_le {p p' : Int → Bool} : ∀ l : List Int, (∀ x ∈ l, p' x = true → p x = true) → (l.filter p').length ≤ (l.filter p).length ∧ ((l.filter p').length = (l.filter p).length → ∀ x ∈ l, p' x = p x)
  | [], _ => ⟨Nat.le_refl _, fun _ _ h => nomatch h⟩
  | x :: l, h => by
    obtain ⟨h1, h2⟩ := filter_le l fun y hy => h y (List.mem_cons_of_mem _ hy)
    have hx := h x (List.mem_cons_self ..)
    rw [List.filter_cons, List.filter_cons]
    cases e' : p' x with
    | true =>
      rw [if_pos rfl, if_pos (hx e'), List.length_cons, List.length_cons]
      refine ⟨by omega, fun e y hy => ?_⟩
      rcases List.mem_cons.mp hy with rfl | hy
      · rw [e', hx e']
      · exact h2 (by omega) y hy
    | false =>
      rw [if_neg Bool.false_ne_true]
      cases e : p x with
      | true =>
        rw [if_pos rfl, List.length_cons]
        exact ⟨by omega, fun e => by omega⟩
      | false =>
        rw [if_neg Bool.false_ne_true]
        refine ⟨h1, fun e2 y hy => ?_⟩
        rcases List.mem_cons.mp hy with rfl | hy
        · rw [e', e]
        · exact h2 e2 y hy
theorem wait_let {A B : Int → List HB} {W : Int → Option Int} {HH : List Int} {hand page : Int} : (waiting (letW A B W hand page) HH).length ≤ (waiting W HH).length ∧ ((waiting (letW A B W hand page) HH).length = (waiting W HH).length → ∀ h ∈ HH, letW A B W hand page h = none → W h = none) := by
  obtain ⟨h1, h2⟩ := filter_le (p := fun h => (W h).isSome) (p' := fun h => (letW A B W hand page h).isSome) HH fun x _ h => by
    unfold letW noW at h
    split at h
    · cases h
    · exact h
  refine ⟨h1, fun e h hh hn => ?_⟩
  have z := h2 e h hh
  rw [hn] at z
  cases hw : W h with
  | none => rfl
  | some _ => rw [hw] at z; cases z
theorem idle_let {P HH : List Int} {A B : Int → List HB} {W : Int → Option Int} {hand page : Int} {hs : List Int} (o : Okk P HH A B W) (id : Idle A W hs) (sub : ∀ h ∈ hs, h ∈ HH) (e : (waiting (letW A B W hand page) HH).length = (waiting W HH).length) : Idle (letA A B hand page) (letW A B W hand page) hs := fun h hh hw q m => by
  have w0 := wait_let.2 e h (sub h hh) hw
  obtain ⟨G, R, eG, eA, eB, eQ, _⟩ := let_parts (A := A) (B := B) (hand := hand) (page := page)
  rw [eA] at m
  by_cases c : q = page
  · rw [c, fup_eq, List.map_append] at m
    rcases List.mem_append.mp m with m | m
    · obtain ⟨r, hr, er⟩ := List.mem_map.mp m
      exact id h hh w0 page (List.mem_map.mpr ⟨r, (List.mem_filter.mp hr).1, er⟩)
    · have := (o.ww h page).mpr (by rw [eQ, List.map_append]; exact List.mem_append_left _ m)
      rw [w0] at this
      cases this
  · rw [fup_ne c] at m
    exact id h hh w0 q m
/-- who lets its page holds it no more -/
theorem let_gone {P HH : List Int} {A B : Int → List HB} {W : Int → Option Int} {hand page q : Int} (o : Okk P HH A B W) (hw : W hand = none) (m : hand ∈ (letA A B hand page q).map (·.1)) : q ≠ page ∧ hand ∈ (A q).map (·.1) := by
  obtain ⟨G, R, eG, eA, eB, eQ, _⟩ := let_parts (A := A) (B := B) (hand := hand) (page := page)
  rw [eA] at m
  by_cases c : q = page
  · rw [c, fup_eq, List.map_append] at m
    rcases List.mem_append.mp m with m | m
    · obtain ⟨r, hr, er⟩ := List.mem_map.mp m
      exact absurd er (of_decide_eq_true (List.mem_filter.mp hr).2)
    · have := (o.ww hand page).mpr (by rw [eQ, List.map_append]; exact List.mem_append_left _ m)
      rw [hw] at this
      cases this
  · rw [fup_ne c] at m
    exact ⟨c, m⟩
theorem letW_none {A B : Int → List HB} {W : Int → Option Int} {hand page h : Int} (e : W h = none) : letW A B W hand page h = none := by
  unfold letW noW
  split
  · rfl
  · exact e
end K37

namespace K37
open PySem PySem.Spec PyProof.Rows L2 RZ HX TR RP AL
theorem op_neDK {X : Cx} (K : PySem.W.Frag) (hu : X.A.units + 64 < cLine) (h : X.K = K := by rfl) : OpR X (compareOp .NotEq) (rNeD K) := by
  subst h
  exact op_neD hu
def srtH (hs : List HB) : List HB := hs.mergeSort fun a b => decide (a.1 ≤ b.1)
theorem ris_srt {hs : List HB} (nd : (hs.map (·.1)).Nodup) : RisH (srtH hs) hs := by
  have pm : (srtH hs).Perm hs := List.mergeSort_perm hs _
  refine ⟨pm, ?_⟩
  have so : (srtH hs).Pairwise fun a b => decide (a.1 ≤ b.1) = true := List.pairwise_mergeSort (fun a b c h1 h2 => by
    have := of_decide_eq_true h1
    have := of_decide_eq_true h2
    exact decide_eq_true (by omega)) (fun a b => by
    rcases Int.le_total a.1 b.1 with h | h
    · simp [h]
    · simp [h]) hs
  have n2 : ((srtH hs).map (·.1)).Nodup := (pm.map _).nodup_iff.mpr nd
  have ne := List.pairwise_map.mp (List.nodup_iff_pairwise_ne.mp n2)
  exact (so.and ne).imp fun ⟨h1, h2⟩ => by
    have := of_decide_eq_true h1
    omega
theorem srt_eq {qs hs : List HB} (nd : (hs.map (·.1)).Nodup) (r : RisH qs hs) : qs = srtH hs := by
  have z := ris_srt nd
  exact ris_eq r.2 z.2 fun q => by rw [r.1.mem_iff, z.1.mem_iff]
def stRow (A B : Int → List HB) (p : Int) : PyData := .tuple [.int p, .tuple ((srtH (A p)).map rowD), .tuple ((B p).map rowD)]
def stD (A B : Int → List HB) (zs : List Int) : PyData := .tuple (zs.map (stRow A B))
theorem lay_rows : ∀ qs : List HB, PyData.canLayAll0 (qs.map rowD) = true
  | [] => rfl
  | q :: qs => by
    show (PyData.canLay0 (rowD q) && PyData.canLayAll0 (qs.map rowD)) = true
    rw [lay_rows qs, Bool.and_true]
    rfl
theorem dep_rows : ∀ qs : List HB, PyData.depthAll (qs.map rowD) ≤ 2
  | [] => by simp [PyData.depthAll]
  | q :: qs => by
    have e : PyData.depth (rowD q) ≤ 2 := by unfold rowD; simp [PyData.depth, PyData.depthAll]
    have ih := dep_rows qs
    simp only [List.map_cons, PyData.depthAll]
    omega
theorem lay_st {A B : Int → List HB} : ∀ zs : List Int, PyData.canLayAll0 (zs.map (stRow A B)) = true
  | [] => rfl
  | p :: zs => by
    show (PyData.canLay0 (stRow A B p) && PyData.canLayAll0 (zs.map (stRow A B))) = true
    rw [lay_st zs, Bool.and_true]
    show (PyData.canLay0 (.int p) && (PyData.canLayAll0 ((srtH (A p)).map rowD) && (PyData.canLayAll0 ((B p).map rowD) && true))) = true
    rw [lay_rows, lay_rows]
    rfl
theorem dep_st {A B : Int → List HB} : ∀ zs : List Int, PyData.depthAll (zs.map (stRow A B)) ≤ 8
  | [] => by simp [PyData.depthAll]
  | p :: zs => by
    have ih := dep_st (A := A) (B := B) zs
    have h1 := dep_rows (srtH (A p))
    have h2 := dep_rows (B p)
    have e : PyData.depth (stRow A B p) ≤ 8 := by
      unfold stRow
      simp only [PyData.depth, PyData.depthAll]
      omega
    simp only [List.map_cons, PyData.depthAll]
    omega
theorem shaped_st {A B : Int → List HB} {zs : List Int} : SeqAt.shaped (stD A B zs) = true := by
  have h1 := lay_st (A := A) (B := B) zs
  have h2 := dep_st (A := A) (B := B) zs
  unfold SeqAt.shaped stD
  refine Bool.and_eq_true_iff.mpr ⟨h1, decide_eq_true ?_⟩
  simp only [PyData.depth]
  omega
theorem eqv_rows : ∀ {xs ys : List HB}, PyData.eqvAll (xs.map rowD) (ys.map rowD) = true → xs = ys
  | [], [], _ => rfl
  | [], y :: ys, h => by simp [PyData.eqvAll] at h
  | x :: xs, [], h => by simp [PyData.eqvAll] at h
  | x :: xs, y :: ys, h => by
    simp only [List.map_cons, PyData.eqvAll, Bool.and_eq_true] at h
    have e : x = y := by
      obtain ⟨a, l⟩ := x
      obtain ⟨b, m⟩ := y
      have z := h.1
      simp [rowD, PyData.eqv, PyData.eqvAll] at z
      rw [Prod.mk.injEq]
      exact z
    rw [e, eqv_rows h.2]
theorem eqv_st {A B A' B' : Int → List HB} : ∀ {zs zs' : List Int}, PyData.eqvAll (zs.map (stRow A B)) (zs'.map (stRow A' B')) = true → zs = zs' ∧ ∀ p ∈ zs, srtH (A p) = srtH (A' p) ∧ B p = B' p
  | [], [], _ => ⟨rfl, fun _ h => nomatch h⟩
  | [], y :: ys, h => by simp [PyData.eqvAll] at h
  | x :: xs, [], h => by simp [PyData.eqvAll] at h
  | x :: xs, y :: ys, h => by
    simp only [List.map_cons, PyData.eqvAll, Bool.and_eq_true] at h
    obtain ⟨h1, h2⟩ := h
    unfold stRow at h1
    simp only [PyData.eqv, PyData.eqvAll, Bool.and_eq_true] at h1
    obtain ⟨e1, e2, e3, _⟩ := h1
    have exy : x = y := by simpa using e1
    subst exy
    obtain ⟨t1, t2⟩ := eqv_st h2
    subst t1
    refine ⟨rfl, fun p hp => ?_⟩
    rcases List.mem_cons.mp hp with e | hp
    · rw [e]
      exact ⟨eqv_rows e2, eqv_rows e3⟩
    · exact t2 p hp
end K37

namespace K37
open PySem PySem.Spec PyProof.Rows L2 RZ HX TR RP AL
/-- one page's row of a state -/
def StRw (A B : Int → List HB) (H : Hp) (x : V) (p : Int) : Prop := ∃ (t t1 t2 : Addr) (xs1 xs2 : List V), x = .ref t ∧ H t = some (.tup [.int p, .ref t1, .ref t2]) ∧ RU.FzT H t1 xs1 ∧ Paired (HbAt H) xs1 (srtH (A p)) ∧ RU.FzT H t2 xs2 ∧ Paired (HbAt H) xs2 (B p)
theorem StRw.keep {A B : Int → List HB} {H H' : Hp} (k : Keep H H') {x : V} {p : Int} (h : StRw A B H x p) : StRw A B H' x p := by
  obtain ⟨t, t1, t2, xs1, xs2, e, h1, h2, h3, h4, h5⟩ := h
  exact ⟨t, t1, t2, xs1, xs2, e, k.all t _ rfl h1, fz_keep k h2, paired_imp (fun _ _ r => HbAt.keep k r) h3, fz_keep k h4, paired_imp (fun _ _ r => HbAt.keep k r) h5⟩
theorem st_dp {K : PySem.W.Frag} {A B : Int → List HB} {H : Hp} : ∀ {xs : List V} {zs : List Int}, Paired (StRw A B H) xs zs → DpAll K H xs (zs.map (stRow A B))
  | [], [], .nil => .nil
  | _ :: _, _ :: _, .cons h hs => by
    obtain ⟨t, t1, t2, xs1, xs2, rfl, h1, h2, h3, h4, h5⟩ := h
    exact .cons (.tup (SqT.of h1) (.cons (.int _) (.cons (.tup (fz_sq h2) (hbs_dp h3)) (.cons (.tup (fz_sq h4) (hbs_dp h5)) .nil)))) (st_dp hs)
section
variable {P : Program} {w : World} {K : PySem.W.Frag} {mg : Str → Option Value} {base : Heap}
def sp_state (K : PySem.W.Frag) : Sp := fun vs H Q _ => ∃ (s : Addr) (F : List Addr) (A B : Int → List HB) (W : Int → Option Int) (PP HH : List Int), vs = [.ref s] ∧ Lat K H s F A B W ∧ Okk PP HH A B W ∧
  ∀ (H' : Hp) (t : Addr) (zs : List Int), Same H H' → Dp K H' (.ref t) (stD A B zs) → zs.Pairwise (· ≤ ·) → zs.Nodup → (∀ p, p ∈ zs ↔ A p ≠ []) → zs.length ≤ 100 → Q (.ref t) H'
theorem ok_state (T : TX K mg) : FnOk P w K mg base CX0 5 (He.ma K (He.ga K "Latches") "state") T.fd_Latches_state ["self"] (sp_state K) := by
  have G_Latches_holders := ok_holders (P := P) (w := w) (base := base) T
  have b_Latches_holders := b_Latches_holders T
  have G_Latches_queue := ok_queue (P := P) (w := w) (base := base) T
  have b_Latches_queue := b_Latches_queue T
  refine T.F_Latches_state.ok sc_Latches_state (fun vs H Q E h => ?_) (fun cdv A outer st H vs Q E hr h => ?_)
  · obtain ⟨s, F, A, B, W, PP, HH, rfl, _⟩ := h
    rfl
  · obtain ⟨s, F, LA, LB, LW, PP, HH, rfl, ⟨dx, a, b, c, ds, ls, ws, x, ne1, ne2⟩, o, kq⟩ := h
    refine ⟨_, PSs.nox (pss_one (ps_ret (pe_callTy RU.call_tupF rfl T.n_tuple (by decide +kernel) (pa_cons (pe_lc (own := [("page", 1)]) (g := gName 1) (tt := tYes) rfl sc_Latches_state.nd (pi_list (pe_callB (HS.cr_sortedDV rfl) rfl T.n_sorted (by decide +kernel) (pa_cons (pe_fld (pv 0) rfl) pa_nil))) (blkOk_by (own := [("page", 1)]) (N := ["self", "page"]) (sc := defScope s_Latches_state) (by decide +kernel)) (fun _ _ _ _ _ => (pg_name (i := 1) sc_Latches_state.nd rfl (Or.inl rfl))) (fun _ _ _ _ _ => pts_nil) (fun _ _ _ _ _ => (pe_tup (pa_cons (pv 1) (pa_cons (pe_meth (pv 0) T.cl_Latches T.m_Latches_holders G_Latches_holders (hr.mono (by first | decide | omega)) b_Latches_holders .nil pass0 (pa_cons (pv 1) pa_nil)) (pa_cons (pe_meth (pv 0) T.cl_Latches T.m_Latches_queue G_Latches_queue (hr.mono (by first | decide | omega)) b_Latches_queue .nil pass0 (pa_cons (pv 1) pa_nil)) pa_nil)))))) pa_nil)))), ?_⟩
    have dl := x.dl o ne1
    have keys : ∀ p, p ∈ ds.map (·.1) ↔ LA p ≠ [] := fun p => by
      constructor
      · intro m
        obtain ⟨q, hq, e⟩ := List.mem_map.mp m
        rw [← e]
        exact ne1 q hq
      · intro n
        exact Classical.byContradiction fun z => n (x.dn p z)
    refine ⟨_, rfl, s, _, dx, _, _, rfl, x.hs, T.cl_Latches, T.na_Latches_holding, lf_h, a, ds.map (fun q => (q.1, V.ref q.2)), rfl, by rw [List.map_map]; exact x.ha, fun H1 l zs s1 ln pz ris hl => ?_⟩
    rw [List.map_map] at pz
    have inz : ∀ p, p ∈ zs ↔ LA p ≠ [] := fun p => by
      rw [pz.mem_iff]
      exact keys p
    have lz : zs.length ≤ 100 := by
      have := pz.length_eq
      rw [List.length_map] at this
      omega
    have x1 := x.same s1
    refine ⟨l, rfl, ⟨_, SqL.of hl⟩, fun D hD => ?_⟩
    have s2 := same_new (o := .lst []) hD
    refine RU.out_it (walk_list (xs := zs.map V.int)) (fun i H' => Same H1 H' ∧ ∃ ys, H' D = some (.lst ys) ∧ Paired (StRw LA LB H') ys (zs.take i)) ⟨s2, [], upd_same, .nil⟩ (fun i H' _ z => SqL.of (z.1 _ _ hl)) ?_ ?_
    · rintro i y H2 H3 hi ⟨s3, ys, hD3, dp3⟩ ⟨rfl, hy⟩
      obtain ⟨page, hp, rfl⟩ := map_at hy
      have x3 := x1.same s3
      have xl3 : Lat K H3 s F LA LB LW := ⟨dx, a, b, c, ds, ls, ws, x3, ne1, ne2⟩
      have mp := o.pa page ((inz page).mp (List.mem_of_getElem? hp))
      have al := o.al page
      have bl := o.bl page
      refine ⟨rfl, ?_⟩
      dsimp only [tYes]
      refine iteT ?_
      refine ⟨_, rfl, _, rfl, s, dx, _, rfl, x3.hs, rfl, _, rfl, s, F, LA, LB, LW, PP, HH, page, rfl, xl3, o, mp, fun H4 t1 xs1 qs1 s4 fz1 pr1 ris1 => ?_⟩
      have eq1 := srt_eq (o.na page) ris1
      rw [eq1] at pr1
      have x4 := x3.same s4
      refine ⟨_, rfl, s, dx, _, rfl, x4.hs, rfl, _, rfl, s, F, LA, LB, LW, PP, HH, page, rfl, ⟨dx, a, b, c, ds, ls, ws, x4, ne1, ne2⟩, o, mp, fun H5 t2 xs2 s5 fz2 pr2 => ?_⟩
      refine ⟨by show 3 ≤ sizeLine; decide, fun t ht => ?_⟩
      have s6 := same_new (o := .tup [.int page, .ref t1, .ref t2]) ht
      have ht6 : upd H5 t (.tup [.int page, .ref t1, .ref t2]) t = some (.tup [.int page, .ref t1, .ref t2]) := upd_same
      have k56 := Keep.of (s5.trans s6)
      have k6 := Keep.of s6
      have row : StRw LA LB (upd H5 t (.tup [.int page, .ref t1, .ref t2])) (.ref t) page := ⟨t, t1, t2, xs1, xs2, rfl, ht6, fz_keep k56 fz1, paired_imp (fun _ _ r => HbAt.keep k56 r) pr1, fz_keep k6 fz2, paired_imp (fun _ _ r => HbAt.keep k6 r) pr2⟩
      have s36 := (s4.trans s5).trans s6
      have hD6 := s36 _ _ hD3
      have dp6 := paired_imp (fun _ _ r => StRw.keep (Keep.of s36) r) dp3
      generalize upd H5 t (.tup [.int page, .ref t1, .ref t2]) = H6 at row s36 hD6 dp6 ⊢
      have ly : ys.length ≤ 100 := by
        rw [dp3.length, List.length_take]
        omega
      have kD : Keep H6 (upd H6 D (.lst (ys ++ [.ref t]))) := Out.keep (F := [D]) (fun b o n e => by rw [upd_ne (fun z => n (List.mem_singleton.mpr z))]; exact e) fun y hy => by rw [List.mem_singleton.mp hy]; exact ⟨_, hD6, rfl⟩
      refine ⟨ys, hD6, by unfold sizeLine; omega, same_upd (s3.trans s36) hD, ys ++ [.ref t], upd_same, ?_⟩
      rw [List.take_add_one, hp]
      exact paired_app (paired_imp (fun _ _ r => StRw.keep kD r) dp6) (.cons (StRw.keep kD row) .nil)
    · rintro H2 ⟨s3, ys, hD3, dp3⟩
      rw [List.length_map, List.take_length] at dp3
      refine ⟨D, ys, rfl, SqL.of hD3, fun t ot ht hot => ?_⟩
      have s4 := same_new (o := .frz ot (.tup ys)) ht
      exact kq _ t zs ((s1.trans s3).trans s4) (.tup (fz_sq ⟨ot, upd_same, hot⟩) (st_dp (paired_imp (fun _ _ r => StRw.keep (Keep.of s4) r) dp3))) ris (pz.nodup_iff.mpr x.nd) inz lz
def Alike (A B A' B' : Int → List HB) : Prop := ∀ p, srtH (A p) = srtH (A' p) ∧ B p = B' p
theorem asc_eq {xs ys : List Int} (h1 : xs.Pairwise (· ≤ ·)) (n1 : xs.Nodup) (h2 : ys.Pairwise (· ≤ ·)) (n2 : ys.Nodup) (m : ∀ p, p ∈ xs ↔ p ∈ ys) : xs = ys := by
  have up : ∀ {zs : List Int}, zs.Pairwise (· ≤ ·) → zs.Nodup → (zs.map fun p => ((p, true) : HB)).Pairwise fun e f => e.1 < f.1 := fun h n => List.pairwise_map.mpr ((h.and (List.nodup_iff_pairwise_ne.mp n)).imp fun ⟨a, b⟩ => by omega)
  have z := ris_eq (up h1 n1) (up h2 n2) fun q => by
    rw [List.mem_map, List.mem_map]
    constructor
    · rintro ⟨p, hp, e⟩
      exact ⟨p, (m p).mp hp, e⟩
    · rintro ⟨p, hp, e⟩
      exact ⟨p, (m p).mpr hp, e⟩
  have w := congrArg (List.map (·.1)) z
  have id_ : ∀ zs : List Int, (zs.map fun p => ((p, true) : HB)).map (·.1) = zs := fun zs => by
    rw [List.map_map]
    exact List.map_id' zs
  rw [id_, id_] at w
  exact w
theorem srt_nil {hs : List HB} : srtH hs = [] ↔ hs = [] := by
  have pm : (srtH hs).Perm hs := List.mergeSort_perm hs _
  constructor
  · intro e
    rw [e] at pm
    exact List.length_eq_zero_iff.mp pm.length_eq.symm
  · intro e
    rw [e] at pm
    rw [e]
    exact List.length_eq_zero_iff.mp pm.length_eq
def sp_eq (K : PySem.W.Frag) : Sp := fun vs H Q _ => ∃ (s s2 : Addr) (F F2 : List Addr) (A B A2 B2 : Int → List HB) (W W2 : Int → Option Int) (PP HH PP2 HH2 : List Int), vs = [.ref s, .ref s2] ∧ Lat K H s F A B W ∧ Okk PP HH A B W ∧ (∀ p, B p ≠ [] → A p ≠ []) ∧ Lat K H s2 F2 A2 B2 W2 ∧ Okk PP2 HH2 A2 B2 W2 ∧ (∀ p, B2 p ≠ [] → A2 p ≠ []) ∧
  ∀ (H' : Hp) (b : Bool), Same H H' → (b = true ↔ Alike A B A2 B2) → Q (.bl b) H'
theorem ok_eq (T : TX K mg) : FnOk P w K mg base CX0 6 (He.ma K (He.ga K "Latches") "__eq__") T.fd_Latches_eq ["self", "other"] (sp_eq K) := by
  have G_Latches_state := ok_state (P := P) (w := w) (base := base) T
  have b_Latches_state := b_Latches_state T
  refine T.F_Latches_eq.ok sc_Latches_eq (fun vs H Q E h => ?_) (fun cdv A outer st H vs Q E hr h => ?_)
  · obtain ⟨s, s2, F, F2, A, B, A2, B2, W, W2, PP, HH, PP2, HH2, rfl, _⟩ := h
    rfl
  · obtain ⟨s, s2, F, F2, LA, LB, A2, B2, LW, W2, PP, HH, PP2, HH2, rfl, xl, o, wt, xl2, o2, wt2, kq⟩ := h
    refine ⟨_, PSs.nox (pss_cons (ps_if (pt_not (pt_val (pe_callB call_isi rfl T.n_isinstance (by decide +kernel) (pa_cons (pv 1) (pa_cons (pe_glob (v := V.ref (He.ga K "Latches")) rfl T.g_Latches rfl) pa_nil)))))
 (pss_one (ps_ret pe_bl))
 pss_nil)
 (pss_one (ps_ret (pe_cmpR (op_eqD hr.units) (pe_meth0 (pv 0) T.cl_Latches T.m_Latches_state G_Latches_state (hr.mono (by first | decide | omega)) b_Latches_state .nil pass0) (pe_meth0 (pv 1) T.cl_Latches T.m_Latches_state G_Latches_state (hr.mono (by first | decide | omega)) b_Latches_state .nil pass0) (nomark _))))), ?_⟩
    obtain ⟨dx, a, b, c, ds, ls, ws, x, n1, n2⟩ := id xl
    obtain ⟨dx2, a2, b2, c2, ds2, ls2, ws2, x2, n3, n4⟩ := id xl2
    refine ⟨_, rfl, _, .ref (He.ga K "Latches"), .ref (He.ga K "Latches"), .ref (He.ga K "Latches"), true, rfl, .own _, .base (.ins x2.hs T.cl_Latches T.kc_Latches T.kg_Latches T.kt_Latches (mro_obj T.mk_Latches.makes)), if_pos (beq_self_eq_true _), true, rfl, iteF ?_⟩
    refine ⟨_, rfl, s, dx, _, rfl, x.hs, rfl, s, F, LA, LB, LW, PP, HH, rfl, xl, o, fun H1 t1 zs1 s1 dp1 p1 nd1 m1 l1 => ?_⟩
    have y2 := x2.same s1
    refine ⟨_, rfl, s2, dx2, _, rfl, y2.hs, rfl, s2, F2, A2, B2, W2, PP2, HH2, rfl, ⟨dx2, a2, b2, c2, ds2, ls2, ws2, y2, n3, n4⟩, o2, fun H2 t2 zs2 s2' dp2 p2 nd2 m2 l2 => ?_⟩
    refine ⟨stD LA LB zs1, stD A2 B2 zs2, dp_same s2' dp1, dp2, shaped_st, shaped_st, ?_⟩
    refine kq H2 _ (s1.trans s2') ⟨fun e => ?_, fun al => ?_⟩
    · have e' : PyData.eqvAll (zs1.map (stRow LA LB)) (zs2.map (stRow A2 B2)) = true := by
        unfold stD at e
        simpa [PyData.eqv] using e
      obtain ⟨ez, eq⟩ := eqv_st e'
      intro p
      by_cases c : p ∈ zs1
      · exact eq p c
      · have e1 : LA p = [] := Classical.byContradiction fun z => c ((m1 p).mpr z)
        have e2 : A2 p = [] := Classical.byContradiction fun z => c (by rw [ez]; exact (m2 p).mpr z)
        have f1 : LB p = [] := Classical.byContradiction fun z => wt p z e1
        have f2 : B2 p = [] := Classical.byContradiction fun z => wt2 p z e2
        rw [e1, e2, f1, f2]
        exact ⟨rfl, rfl⟩
    · have ez : zs1 = zs2 := asc_eq p1 nd1 p2 nd2 fun p => by
        rw [m1, m2]
        have e := (al p).1
        exact not_congr (by rw [← srt_nil, e, srt_nil])
      have er : stRow LA LB = stRow A2 B2 := funext fun p => by
        unfold stRow
        rw [(al p).1, (al p).2]
      have ed : stD LA LB zs1 = stD A2 B2 zs2 := by
        unfold stD
        rw [ez, er]
      rw [ed]
      exact SeqAt.eqv_refl _ (SeqAt.canLay_of_shaped shaped_st)
end
end K37

namespace K37
open PySem PySem.Spec PyProof.Rows L2 RZ HX TR RP AL
theorem same_out {H0 H H' : Hp} {R : List Addr} (s : Same H0 H) (o : Out R H H') (f : ∀ y ∈ R, H0 y = none) : Same H0 H' := fun b u e => o _ _ (fun m => by rw [f b m] at e; cases e) (s _ _ e)
theorem fair_wt {A B : Int → List HB} {Tm : Int → Int → Int} {n : Int} (f : Fair A B Tm n) : ∀ p, B p ≠ [] → A p ≠ [] := fun p h e => by
  cases hb : B p with
  | nil => exact h hb
  | cons q r =>
    have z := f.front p q r hb
    rw [e] at z
    cases z
theorem out_step {F G : List Addr} {H0 H H' : Hp} (s : Out G H0 H) (h : Out F H H') (n : ∀ x ∈ F, x ∈ G ∨ H0 x = none) : Out G H0 H' := fun c o z e => h c o (fun m => (n c m).elim z (fun q => by rw [q] at e; cases e)) (s c o z e)
section
variable {P : Program} {w : World} {K : PySem.W.Frag} {mg : Str → Option Value} {base : Heap}
/-- latches that were just made, and so many moves on from them -/
def sp_law_begun (K : PySem.W.Frag) : Sp := fun vs H Q _ => ∃ (p s ha pa : Addr) (F : List Addr) (PP HH : List Int) (turns : Nat) (rate C : Int), vs = [.ref p, .ref s, .ref ha, .ref pa, .int turns, .int rate] ∧ Lat K H s F (fun _ => []) (fun _ => []) (fun _ => none) ∧ Okk PP HH (fun _ => []) (fun _ => []) (fun _ => none) ∧ H ha = some (.lst (HH.map V.int)) ∧ H pa = some (.lst (PP.map V.int)) ∧ PotOk H p C ∧ C < 2 ^ 38 ∧ turns ≤ 60 ∧ p ∉ F ∧ ha ∉ F ∧ pa ∉ F ∧ ha ≠ p ∧ pa ≠ p ∧ PP ≠ [] ∧ 2 ≤ rate ∧ rate ≤ 60 ∧
  ∀ (H' : Hp) (st : Addr) (R : List Addr) (A B : Int → List HB) (W : Int → Option Int) (Tm : Int → Int → Int) (n : Int), Out (p :: F) H H' → (∀ y ∈ R, y ∈ F ∨ H y = none) → Duo K H' s st R A B W PP HH → Fair A B Tm n → PotOk H' p (C + 300) → Q (.ref st) H'
theorem ok_law_begun (T : TX K mg) : FnOk P w K mg base CX0 7 (He.ga K "_law_begun") T.fd_law_begun ["pot", "latches", "hands", "pages", "turns", "rate"] (sp_law_begun K) := by
  have G_law_none : FnOk P w K mg base CX0 1 (He.ga K "_law_none") T.fd_law_none [] sp_law_none := ok_law_none T
  have b_law_none := b_law_none T
  have G_law_move : FnOk P w K mg base CX0 2 (He.ga K "_law_move") T.fd_law_move ["pot", "state", "hands", "pages", "rate"] sp_law_move := ok_law_move T
  have b_law_move := b_law_move T
  have G_law_done : FnOk P w K mg base CX0 6 (He.ga K "_law_done") T.fd_law_done ["latches", "state", "move"] (sp_law_done K) := ok_law_done T
  have b_law_done := b_law_done T
  refine T.F_law_begun.ok sc_law_begun (fun vs H Q E h => ?_) (fun cdv A outer st H vs Q E hr h => ?_)
  · obtain ⟨p, s, ha, pa, F, PP, HH, turns, rate, C, rfl, _⟩ := h
    rfl
  · obtain ⟨p, s, ha, pa, F, PP, HH, turns, rate, C, rfl, xl, o, hha, hpa, hpot, hC, ht, pF, haF, paF, nhp, npp, nP, ra0, ra1, kq⟩ := h
    refine ⟨_, PSs.nox (pss_cons (ps_set (i := 6) sc_law_begun.nd rfl (Or.inl rfl) (pe_call0 G_law_none (hr.mono (by first | decide | omega)) rfl T.g_law_none T.F_law_none.kp b_law_none .nil pass0))
 (pss_cons (ps_for PassesOwn.never rfl (pi_range1 rfl T.n_range (pa_cons (pv 4) pa_nil)) (pg_name (i := 7) sc_law_begun.nd rfl (Or.inl rfl))
 (Evl.pss_cut (ps_set (i := 8) sc_law_begun.nd rfl (Or.inl rfl) (pe_call G_law_move (hr.mono (by first | decide | omega)) rfl T.g_law_move T.F_law_move.kp b_law_move .nil pass0 (pa_cons (pv 0) (pa_cons (pv 6) (pa_cons (pv 2) (pa_cons (pv 3) (pa_cons (pv 5) pa_nil)))))))
 (pss_one (ps_if (PW.pt (pw_and (pt_cmpR op_notN (pv 8) pe_non (nomark _)) (pw_and1 (pt_not (pt_val (pe_call G_law_done (hr.mono (by first | decide | omega)) rfl T.g_law_done T.F_law_done.kp b_law_done .nil pass0 (pa_cons (pv 1) (pa_cons (pv 6) (pa_cons (pv 8) pa_nil)))))))))
 (pss_one (ps_ret pe_non))
 pss_nil))))
 (pss_one (ps_ret (pv 6))))), ?_⟩
    refine ⟨rfl, fun H1 sa G s1 gA yA => ?_⟩
    have xl1 : Lat K H1 s F (fun _ => []) (fun _ => []) (fun _ => none) := xl.out (X := []) (Out.of s1) (Keep.of s1) fun _ _ z => nomatch z
    have rg := Lat.reg xl
    have dj1 : ∀ y, y ∈ F → y ∉ G := fun y hy hg => by
      obtain ⟨u, hu, _⟩ := rg y hy
      rw [gA y hg] at hu
      cases hu
    have duo1 : Duo K H1 s sa (F ++ G) (fun _ => []) (fun _ => []) (fun _ => none) PP HH := ⟨F, G, xl1, yA PP, o, dj1, fun y => List.mem_append⟩
    have pot1 := hpot.same s1
    have exP : ∃ u, H p = some u := by
      obtain ⟨_, _, _, e, _⟩ := hpot
      exact ⟨_, e⟩
    obtain ⟨up, hup⟩ := exP
    have R1 : ∀ y ∈ F ++ G, y ∈ F ∨ H y = none := fun y hy => (List.mem_append.mp hy).imp id (gA y)
    have notR : ∀ {y : Addr} {u : HO} {R : List Addr}, H y = some u → y ∉ F → (∀ z ∈ R, z ∈ F ∨ H z = none) → y ∉ R := fun e n f m => (f _ m).elim n fun z => by rw [e] at z; cases z
    refine ⟨_, rfl, (turns : Int), rfl, by omega, by omega, ?_⟩
    rw [Int.toNat_natCast]
    refine for_it walk_range (fun j σ H' => ∃ v7 v8 R A0 B0 W0 Tm n, σ = [some (.ref p), some (.ref s), some (.ref ha), some (.ref pa), some (.int turns), some (.int rate), some (.ref sa), v7, v8] ∧ Out (p :: F) H H' ∧ (∀ y ∈ R, y ∈ F ∨ H y = none) ∧ Duo K H' s sa R A0 B0 W0 PP HH ∧ Fair A0 B0 Tm n ∧ PotOk H' p (C + 4 * j)) ⟨_, _, F ++ G, _, _, _, (fun _ _ => 0), 0, rfl, Out.of s1, R1, duo1, fair_none, pot1.le (by omega)⟩ (fun _ _ _ _ _ => trivial) ?_ ?_
    · rintro j v σ H2 H3 hj ⟨v7, v8, R, A0, B0, W0, Tm, n, rfl, o2, r2, duo, fr, pot2⟩ ⟨rfl, rfl⟩
      have hj' : j < turns := hj
      have pR := notR hup pF r2
      have haR := notR hha haF r2
      have paR := notR hpa paF r2
      have haO : ha ∉ p :: F := fun m => (List.mem_cons.mp m).elim nhp haF
      have paO : pa ∉ p :: F := fun m => (List.mem_cons.mp m).elim npp paF
      have e1 := o2 _ _ haO hha
      have e2 := o2 _ _ paO hpa
      obtain ⟨F2, G2, xl2, xs2, ok2, dj2, eR2⟩ := id duo
      refine ⟨fun σ' H' => ∃ mv, σ' = [some (.ref p), some (.ref s), some (.ref ha), some (.ref pa), some (.int turns), some (.int rate), some (.ref sa), some (.int (0 + (j : Int))), some mv] ∧ But p H3 H' ∧ PotOk H' p (C + 4 * j + 4) ∧ (mv = .non ∨ ∃ (t : Addr) (hand page : Int) (l lone : Bool), mv = .ref t ∧ H' t = some (.tup [.str (if l = true then "let" else "take"), .int hand, .int page, .bl lone]) ∧ hand ∈ HH ∧ page ∈ PP ∧ W0 hand = none ∧ (l = true ↔ hand ∈ (A0 page).map (·.1))), ?_, ?_⟩
      · exact ⟨_, rfl, _, rfl, _, rfl, _, rfl, _, rfl, p, sa, ha, pa, G2, _, _, _, PP, HH, rate, _, rfl, xs2, ok2, e1, e2, pot2, by omega, fun m => pR ((eR2 p).mpr (.inr m)), nhp, npp, nP, ra0, ra1, fun Hb bb potb => ⟨_, rfl, bb, potb.le (by omega), .inl rfl⟩, fun Hb t hand page l lone bb potb htb hH hP hW hl => ⟨_, rfl, bb, potb.le (by omega), .inr ⟨t, hand, page, l, lone, rfl, htb, hH, hP, hW, hl⟩⟩⟩
      · rintro _ Hb ⟨mv, rfl, bb, potb, hmv⟩
        have duob := duo.but pot2 bb pR
        have ob : Out (p :: F) H Hb := o2.trans ((Out.but bb).mono fun y hy => by rw [List.mem_singleton.mp hy]; exact List.mem_cons_self ..)
        rcases hmv with rfl | ⟨t, hand, page, l, lone, rfl, htb, hH, hP, hW, hl⟩
        · exact ⟨_, rfl, rfl, _, rfl, iteF (iteF ⟨_, _, R, A0, B0, W0, Tm, n, rfl, ob, r2, duob, fr, potb.le (by omega)⟩)⟩
        · refine ⟨_, rfl, rfl, _, rfl, iteT ?_⟩
          refine ⟨_, rfl, _, rfl, _, rfl, s, sa, t, R, A0, B0, W0, PP, HH, hand, page, l, lone, rfl, duob, htb, hH, hP, hW, hl, fun Hc R' oc rc duoc => ⟨true, rfl, iteF ?_⟩⟩
          have fr' : ∃ Tm' n', Fair (mvA A0 B0 l hand page lone) (mvB A0 B0 l hand page lone) Tm' n' := by
            cases l with
            | true => exact ⟨Tm, n, fair_let fr⟩
            | false => exact ⟨_, _, fair_take ok2 fr hW fun m => by have := hl.mpr m; cases this⟩
          obtain ⟨Tm', n', fr'⟩ := fr'
          have pbx : ∃ u, Hb p = some u := by
            obtain ⟨_, _, _, e, _⟩ := potb
            exact ⟨_, e⟩
          obtain ⟨ub, hub⟩ := pbx
          refine ⟨_, _, R', _, _, _, Tm', n', rfl, out_step ob oc fun y hy => (r2 y hy).imp (List.mem_cons_of_mem _) id, fun y hy => ?_, duoc, fr', (pot_out potb oc pR).le (by omega)⟩
          rcases rc y hy with h | h
          · exact r2 y h
          · by_cases c : y ∈ p :: F
            · rcases List.mem_cons.mp c with e | e
              · rw [e, hub] at h; cases h
              · exact .inl e
            · cases h0 : H y with
              | none => exact .inr rfl
              | some u => rw [ob _ _ c h0] at h; cases h
    · rintro σ H2 ⟨v7, v8, R, A0, B0, W0, Tm, n, rfl, o2, r2, duo, fr, pot2⟩
      exact ⟨_, rfl, kq H2 sa R A0 B0 W0 Tm n o2 r2 duo fr (pot2.le (by omega))⟩
end
end K37

namespace K37
open PySem PySem.Spec PyProof.Rows L2 RZ HX TR RP AL
/-- the holders of a page, in falling order -/
def fallH (A : Int → List HB) (p : Int) : List HB := (srtH (A p)).reverse
theorem fall_perm {A : Int → List HB} {p : Int} : (fallH A p).Perm (A p) := (List.reverse_perm _).trans (List.mergeSort_perm _ _)
theorem fits_perm {hs gs : List HB} (h : hs.Perm gs) (l : Bool) : fits hs l = fits gs l := by
  have key : ∀ {xs ys : List HB}, xs.Perm ys → fits xs l = true → fits ys l = true := fun p e => by
    rcases fits_cases.mp e with z | ⟨z, m⟩
    · rw [z] at p
      exact fits_cases.mpr (.inl (List.length_eq_zero_iff.mp p.length_eq.symm))
    · exact fits_cases.mpr (.inr ⟨z, fun q hq => m q (p.mem_iff.mpr hq)⟩)
  exact Bool.eq_iff_iff.mpr ⟨key h, key h.symm⟩
theorem sole_perm {hs gs : List HB} (h : hs.Perm gs) (s : Sole hs) : Sole gs := fun ⟨q, hq, e⟩ => by
  rw [← h.length_eq]
  exact s ⟨q, h.mem_iff.mpr hq, e⟩
theorem sole_fits {hs : List HB} (h : Sole hs) {m : Nat} {r : HB} (hr : hs[m]? = some r) : fits (hs.take m) r.2 = true := by
  have hm := (List.getElem?_eq_some_iff.mp hr).1
  by_cases c : ∃ q ∈ hs, q.2 = true
  · have := h c
    have e : m = 0 := by omega
    rw [e]
    exact fits_cases.mpr (.inl rfl)
  · have z : ∀ q ∈ hs, q.2 = false := fun q hq => by
      cases e : q.2 with
      | false => rfl
      | true => exact absurd ⟨q, hq, e⟩ c
    exact fits_cases.mpr (.inr ⟨z r (List.mem_of_getElem? hr), fun q hq => z q (List.mem_of_mem_take hq)⟩)
theorem take_not {xs : List HB} (nd : (xs.map (·.1)).Nodup) {m : Nat} {r : HB} (hr : xs[m]? = some r) : r.1 ∉ (xs.take m).map (·.1) := fun h => by
  have e : (xs.take (m + 1)).map (·.1) = (xs.take m).map (·.1) ++ [r.1] := by
    rw [List.take_add_one, hr, List.map_append]
    rfl
  have sb : ((xs.take (m + 1)).map (·.1)).Sublist (xs.map (·.1)) := (List.take_sublist _ _).map _
  have n2 := (List.nodup_iff_pairwise_ne.mp nd).sublist sb
  rw [e] at n2
  exact (List.pairwise_append.mp n2).2.2 _ h _ (List.mem_singleton.mpr rfl) rfl
/-- whole on these pages, and so many on one more -/
def half (G : Int → List HB) (L : List Int) (page : Int) (m : Nat) : Int → List HB := fun q => if q ∈ L then G q else if q = page then (G page).take m else []
def whol (G : Int → List HB) (L : List Int) : Int → List HB := fun q => if q ∈ L then G q else []
theorem half_at {G : Int → List HB} {L : List Int} {page : Int} {m : Nat} (n : page ∉ L) : half G L page m page = (G page).take m := by
  unfold half
  rw [if_neg n, if_pos rfl]
theorem half_step {G : Int → List HB} {L : List Int} {page : Int} {m : Nat} {r : HB} (n : page ∉ L) (hr : (G page)[m]? = some r) : fup (half G L page m) page (half G L page m page ++ [r]) = half G L page (m + 1) := funext fun q => by
  by_cases c : q = page
  · rw [c, fup_eq, half_at n, half_at n, List.take_add_one, hr]
    rfl
  · rw [fup_ne c]
    unfold half
    rw [if_neg c, if_neg c]
theorem half_zero {G : Int → List HB} {L : List Int} {page : Int} : half G L page 0 = whol G L := funext fun q => by
  unfold half whol
  rw [List.take_zero, ite_self]
theorem half_end {G : Int → List HB} {L : List Int} {page : Int} {n : Nat} (h : (G page).length ≤ n) : half G L page n = whol G (L ++ [page]) := funext fun q => by
  unfold half whol
  rw [List.take_of_length_le h]
  by_cases c : q ∈ L
  · rw [if_pos c, if_pos (List.mem_append_left _ c)]
  · by_cases d : q = page
    · rw [if_neg c, if_pos d, if_pos (by rw [d]; simp), d]
    · rw [if_neg c, if_neg d, if_neg (fun m => (List.mem_append.mp m).elim c fun z => d (List.mem_singleton.mp z))]
theorem whol_nil {G : Int → List HB} : whol G [] = fun _ => [] := funext fun q => if_neg List.not_mem_nil
theorem whol_all {G : Int → List HB} {L : List Int} (h : ∀ p, G p ≠ [] → p ∈ L) : whol G L = G := funext fun q => by
  unfold whol
  by_cases c : q ∈ L
  · rw [if_pos c]
  · rw [if_neg c]
    exact (Classical.byContradiction fun z => c (h q fun e => z e.symm))
theorem at_once {A0 : Int → List HB} {L : List Int} {page : Int} {m : Nat} {r : HB} (so : Sole (A0 page)) (n : page ∉ L) (hr : (fallH A0 page)[m]? = some r) : atOnce (half (fallH A0) L page m) (fun _ => []) page r.2 = true := by
  unfold atOnce
  rw [half_at n, sole_fits (sole_perm fall_perm.symm so) hr]
  rfl
theorem not_once {A0 B0 : Int → List HB} {Tm : Int → Int → Int} {k : Int} (f : Fair A0 B0 Tm k) {L : List Int} {page : Int} {m : Nat} {r : HB} (n : page ∉ L) (hr : (B0 page)[m]? = some r) : ¬ atOnce (fallH A0) (half B0 L page m) page r.2 = true := by
  unfold atOnce
  rw [half_at n]
  cases m with
  | zero =>
    cases e : B0 page with
    | nil => rw [e] at hr; cases hr
    | cons q t =>
      rw [e] at hr
      cases hr
      rw [fits_perm fall_perm, f.front page r t e]
      simp
  | succ m =>
    cases e : B0 page with
    | nil => rw [e] at hr; cases hr
    | cons q t => simp
theorem half_free {PP HH : List Int} {A0 B0 G : Int → List HB} {W0 W : Int → Option Int} (o0 : Okk PP HH A0 B0 W0) {L : List Int} {page : Int} {m : Nat} {r : HB} (n : page ∉ L) (hr : (B0 page)[m]? = some r) (o : Okk PP HH G (half B0 L page m) W) : W r.1 = none := by
  cases e : W r.1 with
  | none => rfl
  | some p =>
    have h := (o.ww r.1 p).mp e
    have hB : r.1 ∈ (B0 page).map (·.1) := List.mem_map_of_mem (List.mem_of_getElem? hr)
    have w1 := (o0.ww r.1 page).mpr hB
    by_cases c : p ∈ L
    · unfold half at h
      rw [if_pos c] at h
      have w2 := (o0.ww r.1 p).mpr h
      rw [w1] at w2
      cases w2
      exact absurd c n
    · by_cases d : p = page
      · rw [d, half_at n] at h
        exact absurd h (take_not (o0.nb page) hr)
      · unfold half at h
        rw [if_neg c, if_neg d] at h
        cases h
theorem fall_free {PP HH : List Int} {A0 B0 : Int → List HB} {W0 : Int → Option Int} (o0 : Okk PP HH A0 B0 W0) {page : Int} {m : Nat} {r : HB} (hr : (B0 page)[m]? = some r) : r.1 ∉ (fallH A0 page).map (·.1) := fun h => by
  obtain ⟨q, hq, e⟩ := List.mem_map.mp h
  have := o0.ab page q (fall_perm.mem_iff.mp hq)
  exact this (by rw [e]; exact List.mem_map_of_mem (List.mem_of_getElem? hr))
theorem fall_nodup {PP HH : List Int} {A0 B0 : Int → List HB} {W0 : Int → Option Int} (o0 : Okk PP HH A0 B0 W0) (p : Int) : ((fallH A0 p).map (·.1)).Nodup := (fall_perm.map _).nodup_iff.mpr (o0.na p)
theorem okk_ww {PP HH : List Int} {A A' B : Int → List HB} {W W' : Int → Option Int} (o : Okk PP HH A B W) (o' : Okk PP HH A' B W') : W = W' := funext fun h => Option.ext fun p => by
  rw [o.ww, o'.ww]
theorem paired_rv {α β : Type} {R : α → β → Prop} : ∀ {xs : List α} {ys : List β}, Paired R xs ys → Paired R xs.reverse ys.reverse
  | _, _, .nil => .nil
  | _, _, .cons r rs => by
    rw [List.reverse_cons, List.reverse_cons]
    exact paired_app (paired_rv rs) (.cons r .nil)
theorem not_ahead {PP : List Int} (nd : PP.Nodup) {i : Nat} {page : Int} (hp : PP[i]? = some page) : page ∉ PP.take i := fun m => by
  obtain ⟨j, hj⟩ := List.mem_iff_getElem?.mp m
  have hji : j < i := by
    have := (List.getElem?_eq_some_iff.mp hj).1
    rw [List.length_take] at this
    omega
  rw [List.getElem?_take_of_lt hji] at hj
  have hj1 := (List.getElem?_eq_some_iff.mp hj).1
  have hi1 := (List.getElem?_eq_some_iff.mp hp).1
  have := (List.getElem_inj nd (h₀ := hj1) (h₁ := hi1)).mp ((List.getElem?_eq_some_iff.mp hj).2.trans (List.getElem?_eq_some_iff.mp hp).2.symm)
  omega
/-- other latches, new, on their way -/
structure Stg (K : PySem.W.Frag) (H H' : Hp) (s : Addr) (F : List Addr) (A B : Int → List HB) (W : Int → Option Int) (PP HH : List Int) : Prop where
  sm : Same H H'
  fr : ∀ y ∈ F, H y = none
  lat : Lat K H' s F A B W
  okk : Okk PP HH A B W
section
variable {K : PySem.W.Frag} {H H' H'' : Hp} {s : Addr} {F F' : List Addr} {A B A' B' : Int → List HB} {W W' : Int → Option Int} {PP HH : List Int}
theorem Stg.same (x : Stg K H H' s F A B W PP HH) (sm : Same H' H'') : Stg K H H'' s F A B W PP HH := ⟨x.sm.trans sm, x.fr, x.lat.out (X := []) (Out.of sm) (Keep.of sm) (fun _ _ z => nomatch z), x.okk⟩
theorem Stg.step (x : Stg K H H' s F A B W PP HH) (o : Out F H' H'') (f : ∀ y ∈ F', y ∈ F ∨ H' y = none) (l : Lat K H'' s F' A' B' W') (ok : Okk PP HH A' B' W') : Stg K H H'' s F' A' B' W' PP HH :=
  ⟨same_out x.sm o x.fr, fun y hy => (f y hy).elim (x.fr y) (none_of x.sm), l, ok⟩
theorem Stg.keep (x : Stg K H H' s F A B W PP HH) (o : Out F H' H'') : Keep H' H'' := Out.keep o (Lat.reg x.lat)
end
section
variable {P : Program} {w : World} {K : PySem.W.Frag} {mg : Str → Option Value} {base : Heap}
def sp_law_straight (K : PySem.W.Frag) : Sp := fun vs H Q _ => ∃ (st pa : Addr) (G : List Addr) (A B : Int → List HB) (W : Int → Option Int) (Tm : Int → Int → Int) (n : Int) (PP HH : List Int), vs = [.ref st, .ref pa] ∧ St H st G A B PP ∧ Okk PP HH A B W ∧ Fair A B Tm n ∧ PP.Nodup ∧ H pa = some (.lst (PP.map V.int)) ∧
  ∀ (H' : Hp) (s : Addr) (F : List Addr), Stg K H H' s F (fallH A) B W PP HH → Q (.ref s) H'
theorem ok_law_straight (T : TX K mg) : FnOk P w K mg base CX0 6 (He.ga K "_law_straight") T.fd_law_straight ["state", "pages"] (sp_law_straight K) := by
  have G_Latches_init := ok_Latches_init (P := P) (w := w) (base := base) T
  have b_Latches_init := b_Latches_init T
  have G_Latches_take := ok_take (P := P) (w := w) (base := base) T
  have kb_Latches_take := kb_Latches_take T
  refine T.F_law_straight.ok sc_law_straight (fun vs H Q E h => ?_) (fun cdv A outer st H vs Q E hr h => ?_)
  · obtain ⟨sa, pa, G, A, B, W, Tm, n, PP, HH, rfl, _⟩ := h
    rfl
  · obtain ⟨sa, pa, G, A0, B0, W0, Tm, n, PP, HH, rfl, xs, o0, fr0, ndP, hpa, kq⟩ := h
    refine ⟨_, PSs.nox (pss_cons (ps_set (i := 2) sc_law_straight.nd rfl (Or.inl rfl) (pe_make0 T.mk_Latches G_Latches_init (hr.mono (by first | decide | omega)) rfl T.g_Latches b_Latches_init .nil pass0))
 (pss_cons (ps_for PassesOwn.never rfl (pi_list (pv 1)) (pg_name (i := 3) sc_law_straight.nd rfl (Or.inl rfl))
 (pss_one (ps_for PassesOwn.never rfl (pi_list (pe_revL (pe_callB HS.cr_sortedRow rfl T.n_sorted (by decide +kernel) (pa_cons (pe_dget2 (hu_of hr) (pe_dget (hu_of hr) (pv 0) pe_str (fun _ _ => rfl)) (pv 3) (pe_lst pa_nil) ⟨rfl, rfl, rfl, rfl⟩) pa_nil)))) (pg_tup rfl (pgs_cons (pg_name (i := 4) sc_law_straight.nd rfl (Or.inl rfl)) (pgs_cons (pg_name (i := 5) sc_law_straight.nd rfl (Or.inl rfl)) pgs_nil)))
 (pss_one (ps_expr (RP.pe_methN (pv 2) T.cl_Latches T.m_Latches_take G_Latches_take (hr.mono (by first | decide | omega)) kb_Latches_take pass0 (pa_cons (pv 4) (pa_cons (pv 3) pa_nil)) (pk_cons (pv 5) pk_nil)))))))
 (pss_cons (ps_for PassesOwn.never rfl (pi_list (pe_revL (pv 1))) (pg_name (i := 3) sc_law_straight.nd rfl (Or.inl rfl))
 (pss_one (ps_for PassesOwn.never rfl (pi_list (pe_dget2 (hu_of hr) (pe_dget (hu_of hr) (pv 0) pe_str (fun _ _ => rfl)) (pv 3) (pe_lst pa_nil) ⟨rfl, rfl, rfl, rfl⟩)) (pg_tup rfl (pgs_cons (pg_name (i := 4) sc_law_straight.nd rfl (Or.inl rfl)) (pgs_cons (pg_name (i := 5) sc_law_straight.nd rfl (Or.inl rfl)) pgs_nil)))
 (pss_one (ps_expr (RP.pe_methN (pv 2) T.cl_Latches T.m_Latches_take G_Latches_take (hr.mono (by first | decide | omega)) kb_Latches_take pass0 (pa_cons (pv 4) (pa_cons (pv 3) pa_nil)) (pk_cons (pv 5) pk_nil)))))))
 (pss_one (ps_ret (pv 2)))))), ?_⟩
    have sta : ∀ {H' : Hp}, Same H H' → St H' sa G A0 B0 PP := fun sm => xs.out (X := []) (Out.of sm) (Keep.of sm) fun _ _ z => nomatch z
    have lpp := o0.pl
    refine fun s dA hsA hdA nA => ?_
    refine ⟨s, dA, rfl, upd_same, fun HA a0 a1 a2 bA an0 an1 an2 ndA xA => ⟨rfl, ?_⟩⟩
    have s1 : Same H HA := made hsA hdA bA
    have x0 : Stg K H HA s [s, a0, a1, a2] (whol (fallH A0) (PP.take 0)) (fun _ => []) (fun _ => none) PP HH := by
      rw [List.take_zero, whol_nil]
      refine ⟨s1, fun y hy => ?_, ⟨dA, a0, a1, a2, [], [], [], xA, (fun q hq => nomatch hq), (fun q hq => nomatch hq)⟩, okk_none o0.pl o0.hl o0.pr o0.hr⟩
      simp only [List.mem_cons, List.not_mem_nil, or_false] at hy
      rcases hy with e | e | e | e
      · rw [e]; exact hsA
      · rw [e]; exact made_none an0
      · rw [e]; exact made_none an1
      · rw [e]; exact made_none an2
    refine ⟨_, rfl, pa, rfl, ⟨_, SqL.of (s1 _ _ hpa)⟩, ?_⟩
    refine for_it (walk_list (xs := PP.map V.int)) (fun i σ H' => ∃ v3 v4 v5 F, σ = [some (.ref sa), some (.ref pa), some (.ref s), v3, v4, v5] ∧ Stg K H H' s F (whol (fallH A0) (PP.take i)) (fun _ => []) (fun _ => none) PP HH) ⟨_, _, _, _, rfl, x0⟩ (fun i σ H' _ z => by obtain ⟨_, _, _, _, _, z⟩ := z; exact SqL.of (z.sm _ _ hpa)) ?_ ?_
    · rintro i v σ H1 H2 hi ⟨v3, v4, v5, F, rfl, x1⟩ ⟨rfl, hv⟩
      obtain ⟨page, hp, rfl⟩ := map_at hv
      have hpm := List.mem_of_getElem? hp
      have npg := not_ahead ndP hp
      obtain ⟨hd, ln, es, fs, y1⟩ := sta x1.sm
      refine ⟨_, rfl, sa, _, rfl, y1.held, hd, rfl, .inl ⟨_, .inl y1.hh⟩, _, rfl, Nat.zero_le _, fun e he => ?_⟩
      have s2 := same_new (o := .lst []) he
      have he2 : upd H2 e (.lst []) e = some (.lst []) := upd_same
      have y2 := y1.same s2
      have x2 := x1.same s2
      generalize upd H2 e (.lst []) = H3 at s2 he2 y2 x2
      refine ⟨_, DGet.k (k := .inl page) y2.hh, ?_⟩
      obtain ⟨l, el, ⟨us, hl, hu⟩, _⟩ := y2.get_held he2 page
      rw [el]
      obtain ⟨ps, rfl, hps, eps⟩ := qu_ps hu
      have nq : (ps.map fun z => z.2.1).Nodup := by
        have e2 := congrArg (List.map (·.1)) eps
        rw [List.map_map, List.map_map] at e2
        have e3 : (ps.map fun z => z.2.1) = (A0 page).map (·.1) := e2.symm
        rw [e3]
        exact o0.na page
      refine ⟨l, ps, rfl, SqL.of hl, hps, nq, fun H4 l4 zs s4 _ pp pw hl4 => ?_⟩
      obtain ⟨rs, h1, h2⟩ := perm_lift (fun q : HB => (q.1, V.bl q.2)) (pp.map (·.2)) (A0 page) eps
      have rr : RisH rs (A0 page) := ⟨h1, by
        have e3 : (zs.map (·.2)).Pairwise (fun e f => e.1 < f.1) := List.pairwise_map.mpr pw
        rw [← h2, List.pairwise_map] at e3
        exact e3⟩
      have pr4 : Paired (HbAt H4) (zs.map fun z => V.ref z.1) rs := rows_hb h2 fun z hz => s4 _ _ (hps z (pp.mem_iff.mp hz))
      have ers : rs = srtH (A0 page) := srt_eq (o0.na page) rr
      rw [ers] at pr4
      have x4 := x2.same s4
      have nl4 : zs.length = (fallH A0 page).length := by
        have := pr4.length
        rw [List.length_map] at this
        rw [this]
        exact List.length_reverse.symm
      refine ⟨l4, _, rfl, SqL.of hl4, fun lr hlr => ?_⟩
      have s5 := same_new (o := .lst (zs.map fun z => V.ref z.1).reverse) hlr
      have hl5 : upd H4 lr (.lst (zs.map fun z => V.ref z.1).reverse) lr = some (.lst (zs.map fun z => V.ref z.1).reverse) := upd_same
      have pr5 := paired_imp (fun _ _ r => HbAt.keep (Keep.of s5) r) (paired_rv pr4)
      have nF5 : lr ∉ F := reg_none (Lat.reg x4.lat) hlr
      have x5 := x4.same s5
      generalize upd H4 lr (.lst (zs.map fun z => V.ref z.1).reverse) = H5 at s5 hl5 pr5 x5
      have lxs : (zs.map fun z => V.ref z.1).reverse.length = (fallH A0 page).length := by rw [List.length_reverse, List.length_map, nl4]
      generalize (zs.map fun z => V.ref z.1).reverse = rows at hl5 pr5 lxs
      refine ⟨lr, rfl, ⟨_, SqL.of hl5⟩, ?_⟩
      refine for_it (walk_list (xs := rows)) (fun m σ H' => ∃ v4 v5 F1, σ = [some (.ref sa), some (.ref pa), some (.ref s), some (.int page), v4, v5] ∧ Stg K H H' s F1 (half (fallH A0) (PP.take i) page m) (fun _ => []) (fun _ => none) PP HH ∧ H' lr = some (.lst rows) ∧ lr ∉ F1 ∧ Paired (HbAt H') rows (fallH A0 page)) ⟨_, _, F, rfl, by rw [half_zero]; exact x5, hl5, nF5, pr5⟩ (fun m σ H' _ z => by obtain ⟨_, _, _, _, _, z, _⟩ := z; exact SqL.of z) ?_ ?_
      · rintro m v σ H6 H7 hm ⟨v4', v5', F1, rfl, x6, hl6, nF6, pr6⟩ ⟨rfl, hv2⟩
        obtain ⟨r, hr', t, rfl, ht⟩ := pget1 pr6 hv2
        refine ⟨t, _, rfl, SqT.of ht, rfl, ?_⟩
        refine ⟨_, _, rfl, _, _, rfl, rfl, ?_⟩
        obtain ⟨dx, a, b, c, ds, ls, ws, xx, _, _⟩ := id x6.lat
        have so : Sole (A0 page) := fr0.sole page
        have e1 := at_once so npg hr'
        have hH := o0.ha page r (fall_perm.mem_iff.mp (List.mem_of_getElem? hr'))
        have hn : r.1 ∉ (half (fallH A0) (PP.take i) page m page).map (·.1) := by
          rw [half_at npg]
          exact take_not (fall_nodup o0 page) hr'
        have eA : takeA (half (fallH A0) (PP.take i) page m) (fun _ => []) r.1 page r.2 = half (fallH A0) (PP.take i) page (m + 1) := by
          unfold takeA
          rw [if_pos e1]
          exact half_step npg hr'
        have eB : takeB (half (fallH A0) (PP.take i) page m) (fun _ => []) r.1 page r.2 = fun _ => [] := by
          unfold takeB
          rw [if_pos e1]
        have eW : takeW (half (fallH A0) (PP.take i) page m) (fun _ => []) (fun _ => none) r.1 page r.2 = fun _ => none := by
          unfold takeW
          rw [if_pos e1]
        have ok' := okk_take x6.okk hH hpm rfl hn (alone := r.2)
        rw [eA, eB, eW] at ok'
        refine ⟨_, rfl, s, dx, _, rfl, xx.hs, rfl, _, rfl, _, rfl, _, rfl, rfl, rfl, s, F1, _, _, _, PP, HH, r.1, page, r.2, rfl, x6.lat, x6.okk, hH, hpm, rfl, hn, fun H8 F2 o8 f8 l8 => ?_⟩
        rw [eA, eB, eW] at l8
        exact ⟨_, _, F2, rfl, x6.step o8 f8 l8 ok', o8 _ _ nF6 hl6, out_stay f8 nF6 hl6, paired_imp (fun _ _ r => HbAt.keep (x6.keep o8) r) pr6⟩
      · rintro σ H6 ⟨v4', v5', F1, rfl, x6, hl6, nF6, pr6⟩
        refine ⟨_, _, _, F1, rfl, ?_⟩
        rw [List.take_add_one, hp]
        rw [half_end (by omega)] at x6
        exact x6
    · rintro σ H1 ⟨v3, v4, v5, F, rfl, x1⟩
      rw [List.length_map, List.take_length, whol_all (fun p z => o0.pa p fun e => z (by unfold fallH; rw [srt_nil.mpr e]; rfl))] at x1
      have hpa1 := x1.sm _ _ hpa
      refine ⟨_, rfl, pa, _, rfl, SqL.of hpa1, fun lr hlr => ?_⟩
      have s2 := same_new (o := .lst (PP.map V.int).reverse) hlr
      have hl2 : upd H1 lr (.lst (PP.map V.int).reverse) lr = some (.lst (PP.map V.int).reverse) := upd_same
      have nF2 : lr ∉ F := reg_none (Lat.reg x1.lat) hlr
      have x2 := x1.same s2
      generalize upd H1 lr (.lst (PP.map V.int).reverse) = H2 at s2 hl2 x2
      have ndR : PP.reverse.Nodup := (List.reverse_perm PP).nodup_iff.mpr ndP
      have memR : ∀ p, p ∈ PP.reverse ↔ p ∈ PP := fun p => List.mem_reverse
      rw [← List.map_reverse] at hl2
      generalize PP.reverse = RR at hl2 ndR memR
      refine ⟨lr, rfl, ⟨_, SqL.of hl2⟩, ?_⟩
      refine for_it (walk_list (xs := RR.map V.int)) (fun i σ H' => ∃ v3 v4 v5 F W, σ = [some (.ref sa), some (.ref pa), some (.ref s), v3, v4, v5] ∧ Stg K H H' s F (fallH A0) (whol B0 (RR.take i)) W PP HH ∧ H' lr = some (.lst (RR.map V.int)) ∧ lr ∉ F) ⟨_, _, _, F, _, rfl, by rw [List.take_zero, whol_nil]; exact x2, hl2, nF2⟩ (fun i σ H' _ z => by obtain ⟨_, _, _, _, _, _, _, z, _⟩ := z; exact SqL.of z) ?_ ?_
      · rintro i v σ H3 H4 hi ⟨v3, v4, v5, F1, W1, rfl, x3, hl3, nF3⟩ ⟨rfl, hv⟩
        obtain ⟨page, hp, rfl⟩ := map_at hv
        have hpm := (memR page).mp (List.mem_of_getElem? hp)
        have npg := not_ahead ndR hp
        obtain ⟨hd, ln, es, fs, y3⟩ := sta x3.sm
        refine ⟨_, rfl, sa, _, rfl, y3.line, ln, rfl, .inl ⟨_, .inl y3.hl⟩, _, rfl, Nat.zero_le _, fun e he => ?_⟩
        have s4 := same_new (o := .lst []) he
        have he4 : upd H4 e (.lst []) e = some (.lst []) := upd_same
        have y4 := y3.same s4
        have x4 := x3.same s4
        have nFe : e ∉ F1 := reg_none (Lat.reg x3.lat) he
        have hl4 := s4 _ _ hl3
        generalize upd H4 e (.lst []) = H5 at s4 he4 y4 x4 hl4
        refine ⟨_, DGet.k (k := .inl page) y4.hl, ?_⟩
        obtain ⟨lq, elq, ⟨rows, hlq, hu⟩, inq⟩ := y4.get_line he4 page
        rw [elq]
        have nFq : lq ∉ F1 := by
          rcases inq with z | z
          · rw [z]; exact nFe
          · intro m
            obtain ⟨u, hu', _⟩ := St.reg xs lq (by exact z)
            rw [x3.fr lq m] at hu'
            cases hu'
        have lrows : rows.length = (B0 page).length := hu.length
        refine ⟨lq, rfl, ⟨_, SqL.of hlq⟩, ?_⟩
        refine for_it (walk_list (xs := rows)) (fun m σ H' => ∃ v4 v5 F2 W2, σ = [some (.ref sa), some (.ref pa), some (.ref s), some (.int page), v4, v5] ∧ Stg K H H' s F2 (fallH A0) (half B0 (RR.take i) page m) W2 PP HH ∧ H' lq = some (.lst rows) ∧ lq ∉ F2 ∧ Paired (HbAt H') rows (B0 page) ∧ H' lr = some (.lst (RR.map V.int)) ∧ lr ∉ F2) ⟨_, _, F1, W1, rfl, by rw [half_zero]; exact x4, hlq, nFq, hu, hl4, nF3⟩ (fun m σ H' _ z => by obtain ⟨_, _, _, _, _, _, z, _⟩ := z; exact SqL.of z) ?_ ?_
        · rintro m v σ H6 H7 hm ⟨v4', v5', F2, W2, rfl, x6, hl6, nF6, pr6, hr6, nr6⟩ ⟨rfl, hv2⟩
          obtain ⟨r, hr', t, rfl, ht⟩ := pget1 pr6 hv2
          refine ⟨t, _, rfl, SqT.of ht, rfl, ?_⟩
          refine ⟨_, _, rfl, _, _, rfl, rfl, ?_⟩
          obtain ⟨dx, a, b, c, ds, ls, ws, xx, _, _⟩ := id x6.lat
          have e1 := not_once fr0 npg hr'
          have hH := o0.hb page r (List.mem_of_getElem? hr')
          have hn := fall_free o0 hr'
          have hw := half_free o0 npg hr' x6.okk
          have eA : takeA (fallH A0) (half B0 (RR.take i) page m) r.1 page r.2 = fallH A0 := by
            unfold takeA
            rw [if_neg e1]
          have eB : takeB (fallH A0) (half B0 (RR.take i) page m) r.1 page r.2 = half B0 (RR.take i) page (m + 1) := by
            unfold takeB
            rw [if_neg e1]
            exact half_step npg hr'
          have ok' := okk_take x6.okk hH hpm hw hn (alone := r.2)
          rw [eA, eB] at ok'
          refine ⟨_, rfl, s, dx, _, rfl, xx.hs, rfl, _, rfl, _, rfl, _, rfl, rfl, rfl, s, F2, _, _, _, PP, HH, r.1, page, r.2, rfl, x6.lat, x6.okk, hH, hpm, hw, hn, fun H8 F3 o8 f8 l8 => ?_⟩
          rw [eA, eB] at l8
          exact ⟨_, _, F3, _, rfl, x6.step o8 f8 l8 ok', o8 _ _ nF6 hl6, out_stay f8 nF6 hl6, paired_imp (fun _ _ r => HbAt.keep (x6.keep o8) r) pr6, o8 _ _ nr6 hr6, out_stay f8 nr6 hr6⟩
        · rintro σ H6 ⟨v4', v5', F2, W2, rfl, x6, hl6, nF6, pr6, hr6, nr6⟩
          refine ⟨_, _, _, F2, W2, rfl, ?_, hr6, nr6⟩
          rw [List.take_add_one, hp]
          rw [half_end (by omega)] at x6
          exact x6
      · rintro σ H3 ⟨v3, v4, v5, F1, W1, rfl, x3, hl3, nF3⟩
        rw [List.length_map, List.take_length, whol_all (fun p z => (memR p).mpr (o0.pb p z))] at x3
        have eW := okk_ww x3.okk o0
        exact ⟨_, rfl, kq H3 s F1 (eW ▸ x3)⟩
theorem alike_symm {A B A2 B2 : Int → List HB} (h : Alike A B A2 B2) : Alike A2 B2 A B := fun p => ⟨(h p).1.symm, (h p).2.symm⟩
def sp_law_alike (K : PySem.W.Frag) : Sp := fun vs H Q _ => ∃ (s s2 : Addr) (F F2 : List Addr) (A B A2 B2 : Int → List HB) (W W2 : Int → Option Int) (PP HH PP2 HH2 : List Int) (due : Bool), vs = [.ref s, .ref s2, .bl due] ∧ s ≠ s2 ∧ Lat K H s F A B W ∧ Okk PP HH A B W ∧ (∀ p, B p ≠ [] → A p ≠ []) ∧ Lat K H s2 F2 A2 B2 W2 ∧ Okk PP2 HH2 A2 B2 W2 ∧ (∀ p, B2 p ≠ [] → A2 p ≠ []) ∧ (due = true ↔ Alike A B A2 B2) ∧
  ∀ (H' : Hp), Same H H' → Q (.bl true) H'
theorem ok_law_alike (T : TX K mg) : FnOk P w K mg base CX0 8 (He.ga K "_law_alike") T.fd_law_alike ["one", "other", "due"] (sp_law_alike K) := by
  have G_Latches_eq := ok_eq (P := P) (w := w) (base := base) T
  have b_Latches_eq := b_Latches_eq T
  refine T.F_law_alike.ok sc_law_alike (fun vs H Q E h => ?_) (fun cdv A outer st H vs Q E hr h => ?_)
  · obtain ⟨s, s2, F, F2, A, B, A2, B2, W, W2, PP, HH, PP2, HH2, due, rfl, _⟩ := h
    rfl
  · obtain ⟨s, s2, F, F2, LA, LB, A2, B2, LW, W2, PP, HH, PP2, HH2, due, rfl, ns, xl, o, wt, xl2, o2, wt2, hd, kq⟩ := h
    refine ⟨_, PSs.nox (pss_cons (ps_if (PW.pt (pw_or (pt_cmpR op_ne (pe_cmpR (OQ.op_eqO G_Latches_eq (hr.mono (by first | decide | omega)) T.m_Latches_eq b_Latches_eq pass0) (pv 0) (pv 1) (nomark _)) (pv 2) (nomark _)) (pw_or (pt_cmpR op_ne (pe_cmpR (OQ.op_eqO G_Latches_eq (hr.mono (by first | decide | omega)) T.m_Latches_eq b_Latches_eq pass0) (pv 1) (pv 0) (nomark _)) (pv 2) (nomark _)) (pw_or1 (pt_cmpR op_eq (pe_cmpR (OQ.op_neO G_Latches_eq (hr.mono (by first | decide | omega)) T.m_Latches_eq T.ne_Latches (mro_obj T.mk_Latches.makes) b_Latches_eq pass0) (pv 0) (pv 1) (nomark _)) (pv 2) (nomark _))))))
 (pss_one (ps_ret pe_bl))
 pss_nil)
 (pss_one (ps_ret (pe_and (pe_cmpR op_eq (pe_cmpR (OQ.op_inO G_Latches_eq (hr.mono (by first | decide | omega)) T.m_Latches_eq b_Latches_eq pass0) (pv 0) (pe_lst (pa_cons (pv 1) pa_nil)) rfl) (pv 2) (nomark _)) (pe_one (pe_cmpR (OQ.op_inO G_Latches_eq (hr.mono (by first | decide | omega)) T.m_Latches_eq b_Latches_eq pass0) (pv 0) (pe_lst (pa_cons (pv 1) (pa_cons (pv 0) pa_nil))) rfl)))))), ?_⟩
    have lat : ∀ {H' : Hp}, Same H H' → Lat K H' s F LA LB LW := fun sm => xl.out (X := []) (Out.of sm) (Keep.of sm) fun _ _ z => nomatch z
    have lat2 : ∀ {H' : Hp}, Same H H' → Lat K H' s2 F2 A2 B2 W2 := fun sm => xl2.out (X := []) (Out.of sm) (Keep.of sm) fun _ _ z => nomatch z
    have hd2 : due = true ↔ Alike A2 B2 LA LB := hd.trans ⟨alike_symm, alike_symm⟩
    obtain ⟨dx, a, b, c, ds, ls, ws, x, n1, n2⟩ := id xl
    obtain ⟨dy, a2, b2, c2, ds2, ls2, ws2, y, n3, n4⟩ := id xl2
    refine ⟨_, rfl, _, rfl, s, s2, dx, dy, _, _, rfl, rfl, x.hs, y.hs, s, s2, F, F2, LA, LB, A2, B2, LW, W2, PP, HH, PP2, HH2, rfl, xl, o, wt, xl2, o2, wt2, fun H1 b1 s1 hb => ?_⟩
    obtain rfl : b1 = due := Bool.eq_iff_iff.mpr (hb.trans hd.symm)
    have dd : decide (V.bl b1 = V.bl b1) = true := decide_eq_true rfl
    have dn : decide (V.bl (!b1) = V.bl b1) = false := decide_eq_false fun z => by
      injection z with z
      cases b1 <;> cases z
    refine ⟨b1, rfl, _, rfl, rfl, _, rfl, ?_⟩
    rw [dd]
    refine iteF ?_
    refine ⟨_, rfl, _, rfl, s2, s, dy, dx, _, _, rfl, rfl, s1 _ _ y.hs, s1 _ _ x.hs, s2, s, F2, F, A2, B2, LA, LB, W2, LW, PP2, HH2, PP, HH, rfl, lat2 s1, o2, wt2, lat s1, o, wt, fun H2 b2 s2' hb2 => ?_⟩
    obtain rfl : b2 = b1 := Bool.eq_iff_iff.mpr (hb2.trans hd2.symm)
    refine ⟨b2, rfl, _, rfl, rfl, _, rfl, ?_⟩
    rw [dd]
    refine iteF ?_
    have s02 := s1.trans s2'
    refine ⟨_, rfl, _, rfl, s, s2, dx, dy, _, _, rfl, rfl, s02 _ _ x.hs, s02 _ _ y.hs, s, s2, F, F2, LA, LB, A2, B2, LW, W2, PP, HH, PP2, HH2, rfl, lat s02, o, wt, lat2 s02, o2, wt2, fun H3 b3 s3' hb3 => ?_⟩
    obtain rfl : b3 = b2 := Bool.eq_iff_iff.mpr (hb3.trans hd.symm)
    refine ⟨b3, rfl, _, rfl, rfl, _, rfl, ?_⟩
    rw [dn]
    refine iteF ?_
    have s03 := s02.trans s3'
    refine ⟨_, rfl, _, rfl, by show 1 ≤ sizeLine; decide, fun q hq => ?_⟩
    have s4 := same_new (o := .lst [.ref s2]) hq
    have hqq : upd H3 q (.lst [.ref s2]) q = some (.lst [.ref s2]) := upd_same
    have s04 := s03.trans s4
    generalize upd H3 q (.lst [.ref s2]) = H4 at s4 hqq s04 ⊢
    refine ⟨s, q, [.ref s2], rfl, rfl, hqq, (fun z hz => ⟨s2, List.mem_singleton.mp hz⟩), s2, rfl, (fun e => absurd e.symm ns), fun _ => ⟨dy, dx, _, _, s04 _ _ y.hs, s04 _ _ x.hs, s2, s, F2, F, A2, B2, LA, LB, W2, LW, PP2, HH2, PP, HH, rfl, lat2 s04, o2, wt2, lat s04, o, wt, fun H5 b5 s5 hb5 => ?_⟩⟩
    obtain rfl : b5 = b3 := Bool.eq_iff_iff.mpr (hb5.trans hd2.symm)
    have s05 := s04.trans s5
    have fin : ∀ {Q' : VK}, (∀ H', Same H H' → Q' (.bl true) H') → ∀ p, H5 p = none → OQ.rInO (He.ga K "Latches") (sp_eq K) E0 (.ref s) (.ref p) (upd H5 p (.lst [.ref s2, .ref s])) Q' := fun {Q'} kq p hp => by
      have s6 := same_new (o := .lst [.ref s2, .ref s]) hp
      have hpp : upd H5 p (.lst [.ref s2, .ref s]) p = some (.lst [.ref s2, .ref s]) := upd_same
      have s06 := s05.trans s6
      generalize upd H5 p (.lst [.ref s2, .ref s]) = H6 at s6 hpp s06 ⊢
      refine ⟨s, p, [.ref s2, .ref s], rfl, rfl, hpp, (fun z hz => ?_), s2, rfl, (fun e => absurd e.symm ns), fun _ => ⟨dy, dx, _, _, s06 _ _ y.hs, s06 _ _ x.hs, s2, s, F2, F, A2, B2, LA, LB, W2, LW, PP2, HH2, PP, HH, rfl, lat2 s06, o2, wt2, lat s06, o, wt, fun H7 b7 s7 hb7 => ?_⟩⟩
      · simp only [List.mem_cons, List.not_mem_nil, or_false] at hz
        exact hz.elim (fun e => ⟨s2, e⟩) fun e => ⟨s, e⟩
      · exact ⟨b7, rfl, fun _ => kq _ (s06.trans s7), fun _ => ⟨s7 _ _ hpp, s, rfl, (fun _ => kq _ (s06.trans s7)), fun n => absurd rfl n⟩⟩
    refine ⟨b5, rfl, fun e => ?_, fun e => ⟨s5 _ _ hqq, ?_⟩⟩ <;> subst e
    · exact ⟨_, rfl, rfl, _, rfl, iteT ⟨_, rfl, _, rfl, _, rfl, by show 2 ≤ sizeLine; decide, fun p hp => fin kq p hp⟩⟩
    · exact ⟨_, rfl, rfl, _, rfl, iteT ⟨_, rfl, _, rfl, _, rfl, by show 2 ≤ sizeLine; decide, fun p hp => fin kq p hp⟩⟩
end
end K37

namespace K37
open PySem PySem.Spec PyProof.Rows L2 RZ HX TR RP AL
section
variable {P : Program} {w : World} {K : PySem.W.Frag} {mg : Str → Option Value} {base : Heap}
def sp_law_standz (K : PySem.W.Frag) : Sp := fun vs H Q _ => ∃ (s st ha pa : Addr) (F G : List Addr) (A A' B : Int → List HB) (W : Int → Option Int) (PP HH : List Int), vs = [.ref s, .ref st, .ref ha, .ref pa] ∧ Lat K H s F A' B W ∧ St H st G A B PP ∧ Okk PP HH A' B W ∧ Okk PP HH A B W ∧ (∀ p, (A' p).Perm (A p)) ∧ H ha = some (.lst (HH.map V.int)) ∧ H pa = some (.lst (PP.map V.int)) ∧ PP.Nodup ∧ PP.length ≤ 60 ∧ ∀ H', Same H H' → Q (.bl true) H'
theorem ok_law_standz (T : TX K mg) : FnOk P w K mg base CX0 6 (He.ga K "_law_stands") T.fd_law_stands ["latches", "state", "hands", "pages"] (sp_law_standz K) := by
  have G_law_same : FnOk P w K mg base CX0 4 (He.ga K "_law_same") T.fd_law_same ["found", "due"] (sp_law_same K 3) := ok_law_same T 3
  have b_law_same := b_law_same T
  have G_law_awaits : FnOk P w K mg base CX0 1 (He.ga K "_law_awaits") T.fd_law_awaits ["state", "hand"] sp_law_awaits := ok_law_awaits T
  have b_law_awaits := b_law_awaits T
  have G_Latches_holders := ok_holders (P := P) (w := w) (base := base) T
  have b_Latches_holders := b_Latches_holders T
  have G_Latches_queue := ok_queue (P := P) (w := w) (base := base) T
  have b_Latches_queue := b_Latches_queue T
  have G_Latches_held := ok_held (P := P) (w := w) (base := base) T
  have b_Latches_held := b_Latches_held T
  have G_Latches_awaited := ok_awaited (P := P) (w := w) (base := base) T
  have b_Latches_awaited := b_Latches_awaited T
  have G_Latches_len := ok_len (P := P) (w := w) (base := base) T
  have b_Latches_len := b_Latches_len T
  refine T.F_law_stands.ok sc_law_stands (fun vs H Q E h => ?_) (fun cdv A outer st H vs Q E hr h => ?_)
  · obtain ⟨s, sa, ha, pa, F, G, A, A', B, W, PP, HH, rfl, _⟩ := h
    rfl
  · obtain ⟨s, sa, ha, pa, F, G, LA, LA', LB, LW, PP, HH, rfl, xl, xs, o', o, pm, hha, hpa, ndP, lP, kq⟩ := h
    have eL : (fun p => (LA' p).length) = fun p => (LA p).length := funext fun p => (pm p).length_eq
    have lat : ∀ {H' : Hp}, Same H H' → Lat K H' s F LA' LB LW := fun sm => xl.out (X := []) (Out.of sm) (Keep.of sm) fun _ _ z => nomatch z
    have sta : ∀ {H' : Hp}, Same H H' → St H' sa G LA LB PP := fun sm => xs.out (X := []) (Out.of sm) (Keep.of sm) fun _ _ z => nomatch z
    have ins : ∀ {H' : Hp}, Same H H' → ∃ dx a b c, H' s = some (.ins (He.ga K "Latches") dx (lfs a b c)) := fun sm => by
      obtain ⟨dx, a, b, c, ds, ls, ws, x, n1, n2⟩ := lat sm
      exact ⟨dx, a, b, c, x.hs⟩
    refine ⟨_, PSs.nox (pss_cons (ps_set (i := 4) sc_law_stands.nd rfl (Or.inl rfl) pe_int)
 (pss_cons (ps_for PassesOwn.never rfl (pi_list (pv 3)) (pg_name (i := 5) sc_law_stands.nd rfl (Or.inr rfl))
 (pss_cons (ps_set (i := 6) sc_law_stands.nd rfl (Or.inl rfl) (pe_callTy RU.call_tupF rfl T.n_tuple (by decide +kernel) (pa_cons (pe_callB HS.cr_sortedRow rfl T.n_sorted (by decide +kernel) (pa_cons (pe_dget2 (hu_of hr) (pe_dget (hu_of hr) (pv 1) pe_str (fun _ _ => rfl)) (pv 5) (pe_lst pa_nil) ⟨rfl, rfl, rfl, rfl⟩) pa_nil)) pa_nil)))
 (pss_cons (ps_set (i := 4) sc_law_stands.nd rfl (Or.inl rfl) (pe_op op_add (pv 4) (pe_callB call_len_seq rfl T.n_len PySem.boot_len (pa_cons (pv 6) pa_nil))))
 (pss_cons (ps_if (pt_not (pt_val (pe_call G_law_same (hr.mono (by first | decide | omega)) rfl T.g_law_same T.F_law_same.kp b_law_same .nil pass0 (pa_cons (pe_meth (pv 0) T.cl_Latches T.m_Latches_holders G_Latches_holders (hr.mono (by first | decide | omega)) b_Latches_holders .nil pass0 (pa_cons (pv 5) pa_nil)) (pa_cons (pv 6) pa_nil)))))
 (pss_one (ps_ret pe_bl))
 pss_nil)
 (pss_one (ps_if (pt_not (pt_val (pe_call G_law_same (hr.mono (by first | decide | omega)) rfl T.g_law_same T.F_law_same.kp b_law_same .nil pass0 (pa_cons (pe_meth (pv 0) T.cl_Latches T.m_Latches_queue G_Latches_queue (hr.mono (by first | decide | omega)) b_Latches_queue .nil pass0 (pa_cons (pv 5) pa_nil)) (pa_cons (pe_callTy RU.call_tupF rfl T.n_tuple (by decide +kernel) (pa_cons (pe_dget2 (hu_of hr) (pe_dget (hu_of hr) (pv 1) pe_str (fun _ _ => rfl)) (pv 5) (pe_lst pa_nil) ⟨rfl, rfl, rfl, rfl⟩) pa_nil)) pa_nil)))))
 (pss_one (ps_ret pe_bl))
 pss_nil))))))
 (pss_cons (ps_for PassesOwn.never rfl (pi_list (pv 2)) (pg_name (i := 7) sc_law_stands.nd rfl (Or.inr rfl))
 (pss_cons (ps_set (i := 8) sc_law_stands.nd rfl (Or.inl rfl) (pe_lst pa_nil))
 (pss_cons (ps_for PassesOwn.never rfl (pi_list (pe_callB cr_sorted rfl T.n_sorted (by decide +kernel) (pa_cons (pv 3) pa_nil))) (pg_name (i := 5) sc_law_stands.nd rfl (Or.inr rfl))
 (pss_one (ps_expr (pe_bm PySem.F.plainAttrs_list PySem.F.slot_list_extend PySem.F.type_list_extend mt_extend (pv 8) (pa_cons (pe_lc (own := [("one", 9), ("lone", 10)]) (g := gTup K 2 (gCons (gName 9) (gCons (gName 10) gNil))) (tt := _) rfl sc_law_stands.nd (pi_list (pe_dget2 (hu_of hr) (pe_dget (hu_of hr) (pv 1) pe_str (fun _ _ => rfl)) (pv 5) (pe_lst pa_nil) ⟨rfl, rfl, rfl, rfl⟩)) (blkOk_by (own := [("one", 9), ("lone", 10)]) (N := ["latches", "state", "hands", "pages", "many", "page", "some", "hand", "due", "one", "lone"]) (sc := defScope s_law_stands) (by decide +kernel)) (fun _ _ _ _ _ => (pg_tup rfl (pgs_cons (pg_name (i := 9) sc_law_stands.nd rfl (Or.inl rfl)) (pgs_cons (pg_name (i := 10) sc_law_stands.nd rfl (Or.inl rfl)) pgs_nil)))) (fun _ _ _ _ _ => pts_one (pt_cmpR op_eq (pv 9) (pv 7) (nomark _))) (fun _ _ _ _ _ => (pe_tup (pa_cons (pv 5) (pa_cons (pv 10) pa_nil))))) pa_nil)))))
 (pss_cons (ps_if (pt_not (pt_val (pe_call G_law_same (hr.mono (by first | decide | omega)) rfl T.g_law_same T.F_law_same.kp b_law_same .nil pass0 (pa_cons (pe_meth (pv 0) T.cl_Latches T.m_Latches_held G_Latches_held (hr.mono (by first | decide | omega)) b_Latches_held .nil pass0 (pa_cons (pv 7) pa_nil)) (pa_cons (pe_callTy RU.call_tupF rfl T.n_tuple (by decide +kernel) (pa_cons (pv 8) pa_nil)) pa_nil)))))
 (pss_one (ps_ret pe_bl))
 pss_nil)
 (pss_one (ps_if (pt_not (pt_val (pe_call G_law_same (hr.mono (by first | decide | omega)) rfl T.g_law_same T.F_law_same.kp b_law_same .nil pass0 (pa_cons (pe_meth (pv 0) T.cl_Latches T.m_Latches_awaited G_Latches_awaited (hr.mono (by first | decide | omega)) b_Latches_awaited .nil pass0 (pa_cons (pv 7) pa_nil)) (pa_cons (pe_call G_law_awaits (hr.mono (by first | decide | omega)) rfl T.g_law_awaits T.F_law_awaits.kp b_law_awaits .nil pass0 (pa_cons (pv 1) (pa_cons (pv 7) pa_nil))) pa_nil)))))
 (pss_one (ps_ret pe_bl))
 pss_nil))))))
 (pss_one (ps_ret (pe_cmpR op_eq (pe_callB (RP.cr_lenOwn G_Latches_len (hr.mono (by first | decide | omega)) T.m_Latches_len b_Latches_len pass0) rfl T.n_len PySem.boot_len (pa_cons (pv 0) pa_nil)) (pv 4) (nomark _))))))), ?_⟩
    refine ⟨_, rfl, pa, rfl, ⟨_, SqL.of hpa⟩, ?_⟩
    refine for_it (walk_list (xs := PP.map V.int)) (fun i σ H' => ∃ v5 v6, σ = [some (.ref s), some (.ref sa), some (.ref ha), some (.ref pa), some (.int ((((PP.take i).map fun p => (LA p).length).sum : Nat) : Int)), v5, v6, none, none, none, none] ∧ Same H H') ⟨_, _, rfl, Same.refl H⟩ (fun i σ H' _ z => by obtain ⟨_, _, _, z⟩ := z; exact SqL.of (z _ _ hpa)) ?_ ?_
    · rintro i v σ H1 H2 hi ⟨v5, v6, rfl, s1⟩ ⟨rfl, hv⟩
      obtain ⟨page, hp, rfl⟩ := map_at hv
      have hpm := List.mem_of_getElem? hp
      obtain ⟨hd, ln, es, fs, x1⟩ := sta s1
      refine ⟨_, rfl, sa, _, rfl, x1.held, hd, rfl, .inl ⟨_, .inl x1.hh⟩, _, rfl, Nat.zero_le _, fun e he => ?_⟩
      have s2 := same_new (o := .lst []) he
      have he2 : upd H2 e (.lst []) e = some (.lst []) := upd_same
      have x2 := x1.same s2
      generalize upd H2 e (.lst []) = H3 at s2 he2 x2
      refine ⟨_, DGet.k (k := .inl page) x2.hh, ?_⟩
      obtain ⟨l, el, ⟨us, hl, hu⟩, _⟩ := x2.get_held he2 page
      rw [el]
      obtain ⟨ps, rfl, hps, eps⟩ := qu_ps hu
      have nq : (ps.map fun z => z.2.1).Nodup := by
        have e2 := congrArg (List.map (·.1)) eps
        rw [List.map_map, List.map_map] at e2
        have e3 : (ps.map fun z => z.2.1) = (LA page).map (·.1) := e2.symm
        rw [e3]
        exact o.na page
      refine ⟨l, ps, rfl, SqL.of hl, hps, nq, fun H4 l4 zs s4 _ pp pw hl4 => ?_⟩
      obtain ⟨rs, h1, h2⟩ := perm_lift (fun q : HB => (q.1, V.bl q.2)) (pp.map (·.2)) (LA page) eps
      refine ⟨l4, _, rfl, SqL.of hl4, fun t ot ht hot => ?_⟩
      have s5 := same_new (o := .frz ot (.tup (zs.map fun z => V.ref z.1))) ht
      have fz5 : RU.FzT (upd H4 t (.frz ot (.tup (zs.map fun z => V.ref z.1)))) t (zs.map fun z => V.ref z.1) := ⟨ot, upd_same, hot⟩
      have pr5 : Paired (HbAt (upd H4 t (.frz ot (.tup (zs.map fun z => V.ref z.1))))) (zs.map fun z => V.ref z.1) rs := rows_hb h2 fun z hz => s5 _ _ (s4 _ _ (hps z (pp.mem_iff.mp hz)))
      have rr : RisH rs (LA page) := ⟨h1, by
        have e3 : (zs.map (·.2)).Pairwise (fun e f => e.1 < f.1) := List.pairwise_map.mpr pw
        rw [← h2, List.pairwise_map] at e3
        exact e3⟩
      have s15 := ((s1.trans s2).trans s4).trans s5
      generalize upd H4 t (.frz ot (.tup (zs.map fun z => V.ref z.1))) = H5 at s5 fz5 pr5 s15
      have lrs : (zs.map fun z => V.ref z.1).length = (LA page).length := by rw [pr5.length, rr.1.length_eq]
      refine ⟨_, rfl, _, rfl, t, _, rfl, .inr (fz_sq fz5), ?_⟩
      refine ⟨_, _, rfl, rfl, ?_⟩
      obtain ⟨dx, a, b, c, hs5⟩ := ins s15
      refine ⟨_, rfl, s, dx, _, rfl, hs5, rfl, _, rfl, s, F, LA', LB, LW, PP, HH, page, rfl, lat s15, o', hpm, fun H6 t6 us6 qs6 s6 fz6 pr6 ris6 => ?_⟩
      have eq6 : qs6 = rs := ris_eq ris6.2 rr.2 fun q => by rw [ris6.1.mem_iff, (pm page).mem_iff, rr.1.mem_iff]
      have al := o.al page
      refine ⟨_, rfl, .ref t6, .ref t, .tuple (rs.map rowD), rfl, sameD_rows _ (by rw [rr.1.length_eq]; omega), by rw [← eq6]; exact rows_dp fz6 pr6, rows_dp (fz_keep (Keep.of s6) fz5) (paired_imp (fun _ _ r => HbAt.keep (Keep.of s6) r) pr5), fun H7 s7 => ⟨true, rfl, iteF ?_⟩⟩
      have s17 := (s15.trans s6).trans s7
      obtain ⟨dx, a, b, c, hs7⟩ := ins s17
      refine ⟨_, rfl, s, dx, _, rfl, hs7, rfl, _, rfl, s, F, LA', LB, LW, PP, HH, page, rfl, lat s17, o', hpm, fun H8 t8 us8 s8 fz8 pr8 => ?_⟩
      obtain ⟨hd, ln, es, fs, x8⟩ := sta (s17.trans s8)
      refine ⟨_, rfl, sa, _, rfl, x8.line, ln, rfl, .inl ⟨_, .inl x8.hl⟩, _, rfl, Nat.zero_le _, fun e he => ?_⟩
      have s9 := same_new (o := .lst []) he
      have he9 : upd H8 e (.lst []) e = some (.lst []) := upd_same
      have x9 := x8.same s9
      have fz9 := fz_keep (Keep.of s9) fz8
      have pr9 := paired_imp (fun _ _ r => HbAt.keep (Keep.of s9) r) pr8
      have s19 := (s17.trans s8).trans s9
      generalize upd H8 e (.lst []) = H9 at s9 he9 x9 fz9 pr9 s19
      refine ⟨_, DGet.k (k := .inl page) x9.hl, ?_⟩
      obtain ⟨l9, el9, ⟨ws9, hl9, hw9⟩, _⟩ := x9.get_line he9 page
      rw [el9]
      refine ⟨l9, _, rfl, SqL.of hl9, fun tb ob htb hob => ?_⟩
      have sb := same_new (o := .frz ob (.tup ws9)) htb
      have fzb : RU.FzT (upd H9 tb (.frz ob (.tup ws9))) tb ws9 := ⟨ob, upd_same, hob⟩
      have prb : Paired (HbAt (upd H9 tb (.frz ob (.tup ws9)))) ws9 (LB page) := paired_imp (fun _ _ r => HbAt.keep (Keep.of sb) r) hw9
      have bl := o.bl page
      refine ⟨.ref t8, .ref tb, .tuple ((LB page).map rowD), rfl, sameD_rows _ (by omega), rows_dp (fz_keep (Keep.of sb) fz9) (paired_imp (fun _ _ r => HbAt.keep (Keep.of sb) r) pr9), rows_dp fzb prb, fun Hc sc => ⟨true, rfl, iteF ?_⟩⟩
      refine ⟨some (.int page), some (.ref t), ?_, (s19.trans sb).trans sc⟩
      have e1 : (((PP.take (i + 1)).map fun p => (LA p).length).sum : Nat) = ((PP.take i).map fun p => (LA p).length).sum + (zs.map fun z => V.ref z.1).length := by
        rw [List.take_add_one, hp, List.map_append, List.sum_append, lrs]
        simp
      rw [e1]
      show [some (V.ref s), some (V.ref sa), some (V.ref ha), some (V.ref pa), some (V.int (((((PP.take i).map fun p => (LA p).length).sum : Nat) : Int) + (((zs.map fun z => V.ref z.1).length : Nat) : Int))), some (V.int page), some (V.ref t), none, none, none, none] = _
      rw [← Int.natCast_add]
    · rintro σ H1 ⟨v5, v6, rfl, s1⟩
      rw [List.length_map, List.take_length]
      obtain ⟨many, emany⟩ : ∃ many : Nat, many = (PP.map fun p => (LA p).length).sum := ⟨_, rfl⟩
      rw [← emany]
      have hha1 := s1 _ _ hha
      refine ⟨_, rfl, ha, rfl, ⟨_, SqL.of hha1⟩, ?_⟩
      refine for_it (walk_list (xs := HH.map V.int)) (fun i σ H' => ∃ v5 v6 v7 v8, σ = [some (.ref s), some (.ref sa), some (.ref ha), some (.ref pa), some (.int (many : Int)), v5, v6, v7, v8, none, none] ∧ Same H H') ⟨_, _, _, _, rfl, s1⟩ (fun i σ H' _ z => by obtain ⟨_, _, _, _, _, z⟩ := z; exact SqL.of (z _ _ hha)) ?_ ?_
      · rintro i v σ H2 H3 hi ⟨v5, v6, v7, v8, rfl, s2⟩ ⟨rfl, hv⟩
        obtain ⟨hand, hp, rfl⟩ := map_at hv
        have hhm := List.mem_of_getElem? hp
        refine ⟨Nat.zero_le _, fun D hD => ?_⟩
        have s4 := same_new (o := .lst []) hD
        have hD4 : upd H3 D (.lst []) D = some (.lst []) := upd_same
        have DH : H D = none := none_of s2 hD
        have s14 := s2.trans s4
        generalize upd H3 D (.lst []) = H4 at s4 hD4 s14
        refine ⟨_, rfl, pa, PP, rfl, SqL.of (s14 _ _ hpa), by omega, fun zs l pz zw hl => ?_⟩
        have s5 := same_new (o := .lst (zs.map V.int)) hl
        have hl5 : upd H4 l (.lst (zs.map V.int)) l = some (.lst (zs.map V.int)) := upd_same
        have hD5 := s5 _ _ hD4
        have lD : l ≠ D := fun z => by rw [z, hD4] at hl; cases hl
        have s15 := s14.trans s5
        generalize upd H4 l (.lst (zs.map V.int)) = H5 at s5 hl5 hD5 s15
        have zlt : zs.Pairwise (· < ·) := by
          have n1 : zs.Nodup := pz.nodup_iff.mpr ndP
          exact ((zw.and (List.nodup_iff_pairwise_ne.mp n1)).imp fun h => by have h1 := h.1; have h2 := h.2; omega)
        have lz : zs.length ≤ 60 := by rw [pz.length_eq]; exact lP
        refine ⟨l, rfl, ⟨_, SqL.of hl5⟩, ?_⟩
        refine for_it (walk_list (xs := zs.map V.int)) (fun j σ H' => ∃ v5, σ = [some (.ref s), some (.ref sa), some (.ref ha), some (.ref pa), some (.int (many : Int)), v5, v6, some (.int hand), some (.ref D), none, none] ∧ Same H H' ∧ H' l = some (.lst (zs.map V.int)) ∧ ∃ xs : List V, H' D = some (.lst xs) ∧ Paired (HbAt H') xs ((zs.take j).flatMap (rowsOf LA hand)) ∧ xs.length ≤ 100 * j) ⟨_, rfl, s15, hl5, [], hD5, .nil, Nat.zero_le _⟩ (fun j σ H' _ z => by obtain ⟨_, _, _, z, _⟩ := z; exact SqL.of z) ?_ ?_
        · rintro j v σ H6 H7 hj ⟨v5, rfl, s6, hl6, xs6, hD6, hx6, lx6⟩ ⟨rfl, hv⟩
          obtain ⟨page, hpg, rfl⟩ := map_at hv
          have hj' : j < zs.length := by rw [List.length_map] at hj; exact hj
          obtain ⟨hd, ln, es, fs, x6⟩ := sta s6
          refine ⟨_, rfl, .inl ⟨rfl, _, SqL.of hD6⟩, ?_⟩
          refine ⟨_, rfl, sa, _, rfl, x6.held, hd, rfl, .inl ⟨_, .inl x6.hh⟩, _, rfl, Nat.zero_le _, fun e he => ?_⟩
          have s7 := same_new (o := .lst []) he
          have he7 : upd H7 e (.lst []) e = some (.lst []) := upd_same
          have x7 := x6.same s7
          generalize upd H7 e (.lst []) = H8 at s7 he7 x7
          refine ⟨_, DGet.k (k := .inl page) x7.hh, ?_⟩
          obtain ⟨l7, el7, ⟨us, hl7, hu⟩, _⟩ := x7.get_held he7 page
          rw [el7]
          have al := o.al page
          have lus : us.length = (LA page).length := hu.length
          refine ⟨l7, rfl, ⟨_, SqL.of hl7⟩, fun D2 hD2 => ?_⟩
          have s8 := same_new (o := .lst []) hD2
          refine RU.out_it (walk_list (xs := us)) (fun k H' => Same H8 H' ∧ ∃ ys : List V, H' D2 = some (.lst ys) ∧ Paired (HbAt H') ys ((((LA page).take k).filter fun q => decide (q.1 = hand)).map fun q => (page, q.2))) ⟨s8, [], upd_same, .nil⟩ (fun k H' _ z => SqL.of (z.1 _ _ hl7)) ?_ ?_
          · rintro k y H9 Ha hk ⟨s9, ys, hD9, hys⟩ ⟨rfl, hy⟩
            obtain ⟨r, hr', t, rfl, ht⟩ := pget1 hu hy
            have et : ((((LA page).take (k + 1)).filter fun q => decide (q.1 = hand)).map fun q => (page, q.2)) = ((((LA page).take k).filter fun q => decide (q.1 = hand)).map fun q => (page, q.2)) ++ (([r].filter fun q => decide (q.1 = hand)).map fun q => (page, q.2)) := by
              rw [List.take_add_one, hr', List.filter_append, List.map_append]
              rfl
            have small : ys.length ≤ 100 := by
              have h1 := hys.length
              rw [List.length_map] at h1
              have h2 := List.length_filter_le (fun q : HB => decide (q.1 = hand)) ((LA page).take k)
              rw [List.length_take] at h2
              omega
            refine ⟨t, _, rfl, .inl (.inl (s9 _ _ ht)), rfl, ?_⟩
            refine ⟨_, _, rfl, _, _, rfl, rfl, ?_⟩
            refine ⟨rfl, _, rfl, _, rfl, rfl, _, rfl, ?_⟩
            by_cases c : r.1 = hand
            · have e1 : decide (V.int r.1 = V.int hand) = true := by rw [c, decide_eq_true rfl]
              rw [e1]
              refine iteT ⟨_, rfl, _, rfl, by show 2 ≤ sizeLine; decide, fun tn htn => ?_⟩
              have sb := same_new (o := .tup [.int page, .bl r.2]) htn
              have htb : upd Ha tn (.tup [.int page, .bl r.2]) tn = some (.tup [.int page, .bl r.2]) := upd_same
              generalize upd Ha tn (.tup [.int page, .bl r.2]) = Hb at sb htb
              have hDb := sb _ _ hD9
              have kb : Keep Hb (upd Hb D2 (.lst (ys ++ [.ref tn]))) := (Keep.refl Hb).upd fun u e => by rw [hDb] at e; cases e; rfl
              refine ⟨_, hDb, by unfold sizeLine; omega, same_upd (s9.trans sb) hD2, ys ++ [.ref tn], upd_same, ?_⟩
              rw [et, List.filter_cons, if_pos (decide_eq_true c)]
              exact paired_app (paired_imp (fun _ _ r => HbAt.keep kb r) (paired_imp (fun _ _ r => HbAt.keep (Keep.of sb) r) hys)) (.cons ⟨tn, rfl, kb _ _ htb⟩ .nil)
            · have e1 : decide (V.int r.1 = V.int hand) = false := decide_eq_false fun z => c (by injection z)
              rw [e1]
              refine iteF ⟨s9, ys, hD9, ?_⟩
              rw [et, List.filter_cons, if_neg (by rw [decide_eq_false c]; exact Bool.false_ne_true)]
              simpa using hys
          · rintro H9 ⟨s9, ys, hD9, hys⟩
            rw [lus, List.take_length] at hys
            have s79 := s7.trans s9
            have hD69 := s79 _ _ hD6
            have ly : ys.length ≤ 100 := by rw [hys.length]; exact rowsOf_len al
            refine ⟨D, D2, xs6, ys, rfl, rfl, hD69, hD9, by unfold sizeLine; omega, ?_⟩
            have k9 : Keep H9 (upd H9 D (.lst (xs6 ++ ys))) := (Keep.refl H9).upd fun u e => by rw [hD69] at e; cases e; rfl
            have et : (zs.take (j + 1)).flatMap (rowsOf LA hand) = (zs.take j).flatMap (rowsOf LA hand) ++ rowsOf LA hand page := by
              rw [List.take_add_one, hpg, List.flatMap_append]
              simp
            refine ⟨_, rfl, same_upd (s6.trans s79) DH, by rw [upd_ne lD]; exact s79 _ _ hl6, xs6 ++ ys, upd_same, ?_, by rw [List.length_append]; omega⟩
            rw [et]
            exact paired_app (paired_imp (fun _ _ r => HbAt.keep k9 r) (paired_imp (fun _ _ r => HbAt.keep (Keep.of s79) r) hx6)) (paired_imp (fun _ _ r => HbAt.keep k9 r) hys)
        · rintro σ H6 ⟨v5, rfl, s6, hl6, xs6, hD6, hx6, lx6⟩
          rw [List.length_map, List.take_length] at hx6
          have lf : (zs.flatMap (rowsOf LA hand)).length ≤ 6000 := by
            have h1 := hx6.length
            rw [List.length_map] at lx6
            omega
          obtain ⟨dx, a, b, c, hs6⟩ := ins s6
          refine ⟨_, rfl, s, dx, _, rfl, hs6, rfl, _, rfl, s, F, LA', LB, LW, PP, HH, hand, rfl, lat s6, o', hhm, fun H7 t7 us7 qs7 s7 fz7 pr7 mem7 ris7 => ?_⟩
          have hD7 := s7 _ _ hD6
          refine ⟨_, rfl, D, _, rfl, SqL.of hD7, fun t8 o8 ht8 ho8 => ?_⟩
          have s8 := same_new (o := .frz o8 (.tup xs6)) ht8
          have fz8 : RU.FzT (upd H7 t8 (.frz o8 (.tup xs6))) t8 xs6 := ⟨o8, upd_same, ho8⟩
          have k78 := Keep.of (s7.trans s8)
          have s68 := (s6.trans s7).trans s8
          have fz7' := fz_keep (Keep.of s8) fz7
          have pr7' := paired_imp (fun _ _ r => HbAt.keep (Keep.of s8) r) pr7
          have pr8 := paired_imp (fun _ _ r => HbAt.keep k78 r) hx6
          generalize upd H7 t8 (.frz o8 (.tup xs6)) = H8 at fz8 s68 fz7' pr7' pr8
          have eq7 : qs7 = zs.flatMap (rowsOf LA hand) := ris_eq ris7 (rowsOf_ris o.na zlt) fun q => by
            rw [List.mem_flatMap, mem7 q.1 q.2, (pm q.1).mem_iff]
            constructor
            · intro m
              exact ⟨q.1, pz.mem_iff.mpr (o.pa _ fun z => by rw [z] at m; cases m), rowsOf_mem.mpr ⟨rfl, m⟩⟩
            · rintro ⟨y, _, hy⟩
              obtain ⟨h1, h2⟩ := rowsOf_mem.mp hy
              rw [h1]
              exact h2
          refine ⟨.ref t7, .ref t8, .tuple ((zs.flatMap (rowsOf LA hand)).map rowD), rfl, sameD_rows _ (by omega), by rw [← eq7]; exact rows_dp fz7' pr7', rows_dp fz8 pr8, fun H9 s9 => ⟨true, rfl, iteF ?_⟩⟩
          have s69 := s68.trans s9
          obtain ⟨dx, a, b, c, hs9⟩ := ins s69
          refine ⟨_, rfl, s, dx, _, rfl, hs9, rfl, _, rfl, s, F, LA', LB, LW, PP, HH, hand, rfl, lat s69, o', hhm, ?_⟩
          refine ⟨_, rfl, _, rfl, sa, G, LA, LB, PP, hand, LW hand, rfl, sta s69, o.pl, o.bl, fun p => o.ww hand p, fun Ha sa' => ?_⟩
          have sam : ∃ d, SameD 3 d ∧ Dp K Ha (((LW hand).map V.int).getD .non) d := by
            cases LW hand with
            | none => exact ⟨.none, trivial, .non⟩
            | some z => exact ⟨.int z, trivial, .int z⟩
          obtain ⟨d, d1, d2⟩ := sam
          exact ⟨_, _, d, rfl, d1, d2, d2, fun Hb sb => ⟨true, rfl, iteF ⟨_, _, _, _, rfl, (s69.trans sa').trans sb⟩⟩⟩
      · rintro σ H2 ⟨v5, v6, v7, v8, rfl, s2⟩
        obtain ⟨dx, a, b, c, hs2⟩ := ins s2
        have lm : many ≤ 6000 := by
          have h1 : ∀ l : List Int, (l.map fun p => (LA p).length).sum ≤ 100 * l.length := fun l => by
            induction l with
            | nil => exact Nat.le_refl _
            | cons x l ih =>
              have := o.al x
              rw [List.map_cons, List.sum_cons, List.length_cons]
              omega
          have := h1 PP
          omega
        refine ⟨_, rfl, s, dx, _, rfl, hs2, s, F, LA', LB, LW, PP, HH, PP, rfl, lat s2, o', ndP, o'.pa, fun H3 s3 => ⟨_, rfl, by rw [eL, ← emany]; unfold sizeLine; omega, _, rfl, rfl, ?_⟩⟩
        have z := kq _ (s2.trans s3)
        have e1 : decide (V.int (((PP.map fun p => (LA' p).length).sum : Nat) : Int) = V.int (many : Int)) = true := by rw [eL, emany]; exact decide_eq_true rfl
        rw [e1]
        exact z
end
end K37

namespace K37
open PySem PySem.Spec PyProof.Rows L2 RZ HX TR RP AL
theorem srt_len {hs : List HB} : (srtH hs).length = hs.length := (List.mergeSort_perm hs _).length_eq
theorem srt_mem {hs : List HB} {h : Int} : h ∈ (srtH hs).map (·.1) ↔ h ∈ hs.map (·.1) := ((List.mergeSort_perm hs _).map _).mem_iff
theorem fall_alike {PP HH : List Int} {A B : Int → List HB} {W : Int → Option Int} (o : Okk PP HH A B W) : Alike A B (fallH A) B := fun p => by
  have z := ris_srt (fall_nodup o p)
  exact ⟨(srt_eq (o.na p) ⟨z.1.trans fall_perm, z.2⟩).symm, rfl⟩
theorem not_alike {PP HH : List Int} {A B : Int → List HB} {W : Int → Option Int} {l lone : Bool} {hand page : Int} (o : Okk PP HH A B W) (hw : W hand = none) (hl : l = true ↔ hand ∈ (A page).map (·.1)) : ¬ Alike (mvA A B l hand page lone) (mvB A B l hand page lone) (fallH A) B := fun al => by
  cases l with
  | false =>
    by_cases c : atOnce A B page lone = true
    · have z := congrArg List.length (al page).1
      unfold mvA takeA at z
      rw [if_neg (by simp), if_pos c, fup_eq, srt_len, srt_len, fall_perm.length_eq, List.length_append] at z
      simp at z
    · have z := congrArg List.length (al page).2
      unfold mvB takeB at z
      rw [if_neg (by simp), if_neg c, fup_eq, List.length_append] at z
      simp at z
  | true =>
    have m := hl.mp rfl
    have z := (al page).1
    have m2 : hand ∈ (srtH (fallH A page)).map (·.1) := srt_mem.mpr ((fall_perm.map _).mem_iff.mpr m)
    rw [← z] at m2
    have m3 := srt_mem.mp m2
    unfold mvA at m3
    rw [if_pos rfl] at m3
    exact (let_gone o hw m3).1 rfl
theorem bare_alike {A B : Int → List HB} (h : ∀ p, A p = []) (wt : ∀ p, B p ≠ [] → A p ≠ []) : Alike A B (fun _ => []) (fun _ => []) := fun p => by
  have e : B p = [] := Classical.byContradiction fun z => wt p z (h p)
  rw [h p, e]
  exact ⟨rfl, rfl⟩
/-- the pages of these that are held -/
def heldP (A : Int → List HB) (ps : List Int) : List Int := ps.filter fun p => !(A p).isEmpty
theorem held_nil {PP HH : List Int} {A B : Int → List HB} {W : Int → Option Int} (o : Okk PP HH A B W) : (heldP A PP).isEmpty = true ↔ ∀ p, A p = [] := by
  rw [List.isEmpty_iff]
  constructor
  · intro e p
    refine Classical.byContradiction fun z => ?_
    have m : p ∈ heldP A PP := List.mem_filter.mpr ⟨o.pa p z, by cases h : A p with
      | nil => exact absurd h z
      | cons q r => rfl⟩
    rw [e] at m
    cases m
  · intro h
    refine List.eq_nil_iff_forall_not_mem.mpr fun p m => ?_
    have := (List.mem_filter.mp m).2
    rw [h p] at this
    cases this
theorem held_sum {PP HH : List Int} {A B : Int → List HB} {W : Int → Option Int} (o : Okk PP HH A B W) : ((((PP.map fun p => (A p).length).sum : Nat) : Int) != 0) = !(heldP A PP).isEmpty := by
  have key : (PP.map fun p => (A p).length).sum = 0 ↔ ∀ p, A p = [] := by
    constructor
    · intro e p
      refine Classical.byContradiction fun z => ?_
      have m : (A p).length ∈ PP.map fun p => (A p).length := List.mem_map.mpr ⟨p, o.pa p z, rfl⟩
      have := List.sum_eq_zero_iff_forall_eq_nat.mp e _ m
      exact z (List.length_eq_zero_iff.mp this)
    · intro h
      refine List.sum_eq_zero_iff_forall_eq_nat.mpr fun x hx => ?_
      obtain ⟨p, _, rfl⟩ := List.mem_map.mp hx
      show (A p).length = 0
      rw [h p]
      rfl
  rw [Bool.eq_iff_iff, bne_iff_ne]
  constructor
  · intro n
    cases e : (heldP A PP).isEmpty with
    | false => rfl
    | true => exact absurd (by rw [key.mpr ((held_nil o).mp e)]; rfl) n
  · intro n z
    have e := (held_nil o).mpr (key.mp (by omega))
    rw [e] at n
    cases n
/-- the latches and the state beside them, and all that stands around -/
structure On37 (K : PySem.W.Frag) (H0 H : Hp) (p l1 l2 s st : Addr) (HH PP : List Int) (R : List Addr) (A B : Int → List HB) (W : Int → Option Int) : Prop where
  sm : Same H0 H
  duo : Duo K H s st R A B W PP HH
  fair : ∃ Tm n, Fair A B Tm n
  fr : ∀ y ∈ R, H0 y = none ∧ y ∉ [p, l1, l2]
  h1 : H l1 = some (.lst (HH.map V.int))
  h2 : H l2 = some (.lst (PP.map V.int))
section
variable {K : PySem.W.Frag} {H0 H H' : Hp} {p l1 l2 s st : Addr} {HH PP : List Int} {R R' : List Addr} {A B A' B' : Int → List HB} {W W' : Int → Option Int} {C : Int}
theorem On37.same (x : On37 K H0 H p l1 l2 s st HH PP R A B W) (sm : Same H H') : On37 K H0 H' p l1 l2 s st HH PP R A B W :=
  ⟨x.sm.trans sm, x.duo.same sm, x.fair, x.fr, sm _ _ x.h1, sm _ _ x.h2⟩
theorem On37.pR (x : On37 K H0 H p l1 l2 s st HH PP R A B W) : p ∉ R ∧ l1 ∉ R ∧ l2 ∉ R := ⟨fun m => (x.fr _ m).2 (by simp), fun m => (x.fr _ m).2 (by simp), fun m => (x.fr _ m).2 (by simp)⟩
theorem On37.but (x : On37 K H0 H p l1 l2 s st HH PP R A B W) (pot : PotOk H p C) (b : But p H H') (hp0 : H0 p = none) (n1 : l1 ≠ p) (n2 : l2 ≠ p) : On37 K H0 H' p l1 l2 s st HH PP R A B W :=
  ⟨fun c u e => b _ _ (fun z => by rw [z, hp0] at e; cases e) (x.sm _ _ e), x.duo.but pot b x.pR.1, x.fair, x.fr, b _ _ n1 x.h1, b _ _ n2 x.h2⟩
theorem On37.step (x : On37 K H0 H p l1 l2 s st HH PP R A B W) (pot : PotOk H p C) (o : Out R H H') (f : ∀ y ∈ R', y ∈ R ∨ H y = none) (d : Duo K H' s st R' A' B' W' PP HH) (fr : ∃ Tm n, Fair A' B' Tm n) : On37 K H0 H' p l1 l2 s st HH PP R' A' B' W' := by
  have ex : ∀ y ∈ [p, l1, l2], H y ≠ none := fun y hy => by
    obtain ⟨_, _, _, e0, _⟩ := id pot
    simp only [List.mem_cons, List.not_mem_nil, or_false] at hy
    rcases hy with e | e | e <;> rw [e]
    · rw [e0]; exact nofun
    · rw [x.h1]; exact nofun
    · rw [x.h2]; exact nofun
  exact ⟨same_out x.sm o fun y hy => (x.fr y hy).1, d, fr, fun y hy => (f y hy).elim (x.fr y) fun e => ⟨none_of x.sm e, fun m => ex y m e⟩, o _ _ x.pR.2.1 x.h1, o _ _ x.pR.2.2 x.h2⟩
theorem On37.wt (x : On37 K H0 H p l1 l2 s st HH PP R A B W) : ∀ p, B p ≠ [] → A p ≠ [] := by
  obtain ⟨Tm, n, f⟩ := x.fair
  exact fair_wt f
theorem On37.fwt (x : On37 K H0 H p l1 l2 s st HH PP R A B W) : ∀ p, B p ≠ [] → fallH A p ≠ [] := fun p z e => x.wt p z (List.length_eq_zero_iff.mp (by rw [← fall_perm.length_eq, e]; rfl))
end
theorem lat_self {K : PySem.W.Frag} {H : Hp} {s : Addr} {F : List Addr} {A B : Int → List HB} {W : Int → Option Int} (x : Lat K H s F A B W) : s ∈ F := by
  obtain ⟨dx, a, b, c, ds, ls, ws, x, _, _⟩ := x
  rw [x.f]
  exact List.mem_cons_self ..
section
variable {P : Program} {w : World} {K : PySem.W.Frag} {mg : Str → Option Value} {base : Heap}
def sp_law (K : PySem.W.Frag) : Sp := fun vs H Q _ => ∃ (a : Addr) (ns : List Int), vs = [.ref a] ∧ SqL K H a (ns.map V.int) ∧ ns.length ≤ 63 ∧ ∀ H', Q (.bl true) H'
theorem ok_law (T : TX K mg) : FnOk P w K mg base CX0 30 (He.ga K "law") T.fd_law ["script"] (sp_law K) := by
  have G_law_pot : FnOk P w K mg base CX0 1 (He.ga K "_law_pot") T.fd_law_pot ["script", "k"] (sp_law_pot K) := ok_law_pot T
  have b_law_pot := b_law_pot T
  have G_Latches_init := ok_Latches_init (P := P) (w := w) (base := base) T
  have b_Latches_init := b_Latches_init T
  have G_law_take : FnOk P w K mg base CX0 1 (He.ga K "_law_take") T.fd_law_take ["pot", "many"] sp_law_take := ok_law_take T
  have b_law_take := b_law_take T
  have G_law_named : FnOk P w K mg base CX0 3 (He.ga K "_law_named") T.fd_law_named ["pot", "hands", "pages"] sp_law_named := ok_law_named T
  have b_law_named := b_law_named T
  have G_law_begun : FnOk P w K mg base CX0 7 (He.ga K "_law_begun") T.fd_law_begun ["pot", "latches", "hands", "pages", "turns", "rate"] (sp_law_begun K) := ok_law_begun T
  have b_law_begun := b_law_begun T
  have G_law_straight : FnOk P w K mg base CX0 6 (He.ga K "_law_straight") T.fd_law_straight ["state", "pages"] (sp_law_straight K) := ok_law_straight T
  have b_law_straight := b_law_straight T
  have G_law_alike : FnOk P w K mg base CX0 8 (He.ga K "_law_alike") T.fd_law_alike ["one", "other", "due"] (sp_law_alike K) := ok_law_alike T
  have b_law_alike := b_law_alike T
  have G_law_stands : FnOk P w K mg base CX0 6 (He.ga K "_law_stands") T.fd_law_stands ["latches", "state", "hands", "pages"] (sp_law_standz K) := ok_law_standz T
  have b_law_stands := b_law_stands T
  have G_law_move : FnOk P w K mg base CX0 2 (He.ga K "_law_move") T.fd_law_move ["pot", "state", "hands", "pages", "rate"] sp_law_move := ok_law_move T
  have b_law_move := b_law_move T
  have G_law_done : FnOk P w K mg base CX0 6 (He.ga K "_law_done") T.fd_law_done ["latches", "state", "move"] (sp_law_done K) := ok_law_done T
  have b_law_done := b_law_done T
  have G_Latches_ring := ok_ring (P := P) (w := w) (base := base) T
  have b_Latches_ring := b_Latches_ring T
  have G_Latches_len := ok_len (P := P) (w := w) (base := base) T
  have b_Latches_len := b_Latches_len T
  refine T.F_law.ok sc_law (fun vs H Q E h => ?_) (fun cdv A outer st H vs Q E hr h => ?_)
  · obtain ⟨a, ns, rfl, _⟩ := h
    rfl
  · obtain ⟨a, ns, rfl, hS, hlen, kq⟩ := h
    refine ⟨_, PSs.nox (pss_cons (ps_for PassesOwn.never rfl (pi_range1 rfl T.n_range (pa_cons (pe_callB (call_max2 rfl) rfl T.n_max (by decide +kernel) (pa_cons pe_int (pa_cons (pe_callB (call_min2 rfl) rfl T.n_min (by decide +kernel) (pa_cons pe_int (pa_cons (pe_callB call_len_seq rfl T.n_len PySem.boot_len (pa_cons (pv 0) pa_nil)) pa_nil))) pa_nil))) pa_nil)) (pg_name (i := 1) sc_law.nd rfl (Or.inl rfl))
 (pss_cons (ps_set (i := 2) sc_law.nd rfl (Or.inl rfl) (pe_call G_law_pot (hr.mono (by first | decide | omega)) rfl T.g_law_pot T.F_law_pot.kp b_law_pot .nil pass0 (pa_cons (pv 0) (pa_cons (pv 1) pa_nil))))
 (pss_cons (ps_asg (pe_call G_law_named (hr.mono (by first | decide | omega)) rfl T.g_law_named T.F_law_named.kp b_law_named .nil pass0 (pa_cons (pv 2) (pa_cons pe_int (pa_cons pe_int pa_nil)))) (pg_tup rfl (pgs_cons (pg_name (i := 3) sc_law.nd rfl (Or.inl rfl)) (pgs_cons (pg_name (i := 4) sc_law.nd rfl (Or.inl rfl)) pgs_nil))))
 (pss_cons (ps_set (i := 5) sc_law.nd rfl (Or.inl rfl) (pe_make0 T.mk_Latches G_Latches_init (hr.mono (by first | decide | omega)) rfl T.g_Latches b_Latches_init .nil pass0))
 (pss_cons (ps_set (i := 6) sc_law.nd rfl (Or.inr rfl) (pe_call G_law_begun (hr.mono (by first | decide | omega)) rfl T.g_law_begun T.F_law_begun.kp b_law_begun .nil pass0 (pa_cons (pv 2) (pa_cons (pv 5) (pa_cons (pv 3) (pa_cons (pv 4) (pa_cons (pe_call G_law_take (hr.mono (by first | decide | omega)) rfl T.g_law_take T.F_law_take.kp b_law_take .nil pass0 (pa_cons (pv 2) (pa_cons pe_int pa_nil))) (pa_cons pe_int pa_nil))))))))
 (pss_cons (ps_if (pt_cmpR op_isN (pv 6) pe_non (nomark _))
 (pss_one (ps_ret pe_bl))
 pss_nil)
 (pss_cons (ps_set (i := 7) sc_law.nd rfl (Or.inl rfl) (pe_call G_law_straight (hr.mono (by first | decide | omega)) rfl T.g_law_straight T.F_law_straight.kp b_law_straight .nil pass0 (pa_cons (pv 6) (pa_cons (pv 4) pa_nil))))
 (Evl.pss_cut (ps_expr (pe_meth0 (pv 7) T.cl_Latches T.m_Latches_ring G_Latches_ring (hr.mono (by first | decide | omega)) b_Latches_ring .nil pass0))
 (pss_cons (ps_if (PW.pt (pw_or (pt_not (pt_val (pe_call G_law_alike (hr.mono (by first | decide | omega)) rfl T.g_law_alike T.F_law_alike.kp b_law_alike .nil pass0 (pa_cons (pv 5) (pa_cons (pv 7) (pa_cons pe_bl pa_nil)))))) (pw_or1 (pt_not (pt_val (pe_call G_law_stands (hr.mono (by first | decide | omega)) rfl T.g_law_stands T.F_law_stands.kp b_law_stands .nil pass0 (pa_cons (pv 7) (pa_cons (pv 6) (pa_cons (pv 3) (pa_cons (pv 4) pa_nil))))))))))
 (pss_one (ps_ret pe_bl))
 pss_nil)
 (pss_cons (ps_setLc (i := 8) (own := [("page", 10)]) (g := gName 10) (tt := _) rfl sc_law.nd rfl rfl (sw_true rfl rfl rfl (by decide +kernel)) (pi_list (pv 4)) (blkOk_by (own := [("page", 10)]) (N := ["script", "k", "pot", "hands", "pages", "latches", "state", "other", "held", "move", "page"]) (sc := defScope s_law) (by decide +kernel)) (fun _ _ _ _ _ => (pg_name (i := 10) sc_law.nd rfl (Or.inl rfl))) (fun _ _ _ _ _ => pts_one (pt_cmpR (op_neDK K hr.units) (pe_dget2 (hu_of hr) (pe_dget (hu_of hr) (pv 6) pe_str (fun _ _ => rfl)) (pv 10) (pe_lst pa_nil) ⟨rfl, rfl, rfl, rfl⟩) (pe_lst pa_nil) (nomark _))) (fun _ _ _ _ _ => (pv 10)))
 (pss_cons (ps_if (PW.pt (pw_or (pt_cmpR op_ne (pe_callTy (OQ.cr_boolO G_Latches_len (hr.mono (by first | decide | omega)) T.m_Latches_len T.na_Latches___bool__ b_Latches_len pass0) rfl T.n_bool (by decide +kernel) (pa_cons (pv 5) pa_nil)) (pe_cmpR (op_neD hr.units) (pv 8) (pe_lst pa_nil) (nomark _)) (nomark _)) (pw_or1 (pt_not (pt_val (pe_call G_law_alike (hr.mono (by first | decide | omega)) rfl T.g_law_alike T.F_law_alike.kp b_law_alike .nil pass0 (pa_cons (pv 5) (pa_cons (pe_make0 T.mk_Latches G_Latches_init (hr.mono (by first | decide | omega)) rfl T.g_Latches b_Latches_init .nil pass0) (pa_cons (pe_cmpR (op_eqD hr.units) (pv 8) (pe_lst pa_nil) (nomark _)) pa_nil)))))))))
 (pss_one (ps_ret pe_bl))
 pss_nil)
 (Evl.pss_cut (ps_set (i := 9) sc_law.nd rfl (Or.inl rfl) (pe_call G_law_move (hr.mono (by first | decide | omega)) rfl T.g_law_move T.F_law_move.kp b_law_move .nil pass0 (pa_cons (pv 2) (pa_cons (pv 6) (pa_cons (pv 3) (pa_cons (pv 4) (pa_cons pe_int pa_nil)))))))
 (pss_one (ps_if (pt_cmpR op_notN (pv 9) pe_non (nomark _))
 (pss_cons (ps_if (PW.pt (pw_or (pt_not (pt_val (pe_call G_law_done (hr.mono (by first | decide | omega)) rfl T.g_law_done T.F_law_done.kp b_law_done .nil pass0 (pa_cons (pv 5) (pa_cons (pv 6) (pa_cons (pv 9) pa_nil)))))) (pw_or1 (pt_not (pt_val (pe_call G_law_alike (hr.mono (by first | decide | omega)) rfl T.g_law_alike T.F_law_alike.kp b_law_alike .nil pass0 (pa_cons (pv 5) (pa_cons (pv 7) (pa_cons pe_bl pa_nil)))))))))
 (pss_one (ps_ret pe_bl))
 pss_nil)
 (pss_one (ps_if (pt_not (pt_val (pe_call G_law_alike (hr.mono (by first | decide | omega)) rfl T.g_law_alike T.F_law_alike.kp b_law_alike .nil pass0 (pa_cons (pv 5) (pa_cons (pe_call G_law_straight (hr.mono (by first | decide | omega)) rfl T.g_law_straight T.F_law_straight.kp b_law_straight .nil pass0 (pa_cons (pv 6) (pa_cons (pv 4) pa_nil))) (pa_cons pe_bl pa_nil))))))
 (pss_one (ps_ret pe_bl))
 pss_nil)))
 pss_nil))))))))))))))
 (pss_one (ps_ret pe_bl))), ?_⟩
    refine ⟨_, rfl, a, _, rfl, .inl hS, _, _, rfl, _, _, rfl, ?_⟩
    refine ⟨_, rfl, ?_, ?_, ?_⟩
    · split <;> split <;> omega
    · split <;> split <;> omega
    refine for_range (fun i σ H' => ∃ v1 v2 v3 v4 v5 v6 v7 v8 v9 v10, σ = [some (.ref a), v1, v2, v3, v4, v5, v6, v7, v8, v9, v10] ∧ Same H H') ⟨_, _, _, _, _, _, _, _, _, _, rfl, Same.refl H⟩ ?_ ?_
    · rintro i σ H1 hi ⟨v1, v2, v3, v4, v5, v6, v7, v8, v9, v10, rfl, s1⟩
      have hi4 : i ≤ 1000 := by
        rw [List.length_map] at hi
        revert hi
        split <;> split <;> omega
      refine ⟨_, rfl, _, rfl, a, ns, i, by rw [Int.zero_add]; rfl, s1.seq hS, hi4, fun H2 p s2 np hp => ?_⟩
      refine ⟨_, rfl, p, 6, 4, 0, rfl, by decide, by decide, by decide, by decide, hp, by decide, fun H3 t l1 l2 HH PP b3 pot3 ht l1n l2n hl1 hl2 l12 ndh ndp lh lpp nP nH bdh bdp => ?_⟩
      refine ⟨t, _, rfl, SqT.of ht, rfl, ?_⟩
      refine ⟨_, _, rfl, _, _, rfl, rfl, ?_⟩
      have l1p : l1 ≠ p := fun z => by
        obtain ⟨_, _, _, e, _⟩ := hp
        rw [← z, l1n] at e
        cases e
      have l2p : l2 ≠ p := fun z => by
        obtain ⟨_, _, _, e, _⟩ := hp
        rw [← z, l2n] at e
        cases e
      have hp0 : H p = none := none_of s1 np
      have s03 : Same H H3 := fun b u e => b3 _ _ (fun z => by rw [z, hp0] at e; cases e) ((s1.trans s2) _ _ e)
      have potEx : ∀ {G : Hp} {C : Int}, PotOk G p C → ∃ u, G p = some u := fun h => by
        obtain ⟨_, _, _, e, _⟩ := h
        exact ⟨_, e⟩
      have nex : ∀ {G : Hp} {y z : Addr} {u : HO}, G y = none → G z = some u → y ≠ z := fun e1 e2 e => by rw [e, e2] at e1; cases e1
      refine fun s dA hsA hdA nA => ?_
      refine ⟨s, dA, rfl, upd_same, fun HA a0 a1 a2 bA an0 an1 an2 ndA xA => ⟨rfl, ?_⟩⟩
      have s3A : Same H3 HA := made hsA hdA bA
      obtain ⟨u3, hu3⟩ := potEx pot3
      have nFA : ∀ y ∈ [s, a0, a1, a2], H3 y = none := fun y hy => by
        simp only [List.mem_cons, List.not_mem_nil, or_false] at hy
        rcases hy with e | e | e | e
        · rw [e]; exact hsA
        · rw [e]; exact made_none an0
        · rw [e]; exact made_none an1
        · rw [e]; exact made_none an2
      have okk0 : Okk PP HH (fun _ => []) (fun _ => []) (fun _ => none) := okk_none (by omega) (by omega) bdp bdh
      have latA : Lat K HA s [s, a0, a1, a2] (fun _ => []) (fun _ => []) (fun _ => none) := ⟨dA, a0, a1, a2, [], [], [], xA, (fun q hq => nomatch hq), (fun q hq => nomatch hq)⟩
      have potA := pot3.same s3A
      have pFA : p ∉ [s, a0, a1, a2] := fun m => nex (nFA p m) hu3 rfl
      have l1FA : l1 ∉ [s, a0, a1, a2] := fun m => nex (nFA l1 m) hl1 rfl
      have l2FA : l2 ∉ [s, a0, a1, a2] := fun m => nex (nFA l2 m) hl2 rfl
      refine ⟨_, rfl, _, rfl, _, rfl, _, rfl, _, rfl, p, 24, _, rfl, by decide, by decide, potA, by omega, fun HB' tu bB potB tu0 tu1 => ?_⟩
      have latB : Lat K HB' s [s, a0, a1, a2] (fun _ => []) (fun _ => []) (fun _ => none) := latA.out (X := [p]) (Out.but bB) (pot_keep potA bB) fun y hy z => pFA (by rw [← List.mem_singleton.mp z]; exact hy)
      obtain ⟨tn, rfl⟩ : ∃ n : Nat, tu = (n : Int) := ⟨tu.toNat, by omega⟩
      have b2B : But p H2 HB' := (b3.trans (But.of s3A)).trans bB
      refine ⟨p, s, l1, l2, _, PP, HH, tn, 3, _, rfl, latB, okk0, bB _ _ l1p (s3A _ _ hl1), bB _ _ l2p (s3A _ _ hl2), potB, by omega, by omega, pFA, l1FA, l2FA, l1p, l2p, nP, by decide, by decide, fun HC sa R A0 B0 W0 Tm n oC rC duoC frC potC => ?_⟩
      have fresh : ∀ {G : Hp} {y : Addr}, y ∈ R → (But p H G ∨ True) → H y = none := fun {G y} hy _ => (rC y hy).elim (fun m => none_of s03 (nFA y m)) fun e => by
        have e2 := but_none b2B (fun z => by obtain ⟨u, hu⟩ := potEx potB; rw [z, hu] at e; cases e) e
        exact none_of (s1.trans s2) e2
      have sHB : Same H HB' := fun b u e => bB _ _ (fun z => by rw [z, hp0] at e; cases e) ((s03.trans s3A) _ _ e)
      have hl1B := bB _ _ l1p (s3A _ _ hl1)
      have hl2B := bB _ _ l2p (s3A _ _ hl2)
      obtain ⟨uB, huB⟩ := potEx potB
      have l1O : l1 ∉ p :: [s, a0, a1, a2] := fun m => (List.mem_cons.mp m).elim l1p l1FA
      have l2O : l2 ∉ p :: [s, a0, a1, a2] := fun m => (List.mem_cons.mp m).elim l2p l2FA
      have nR : ∀ {y : Addr} {u : HO}, HB' y = some u → y ∉ [s, a0, a1, a2] → y ∉ R := fun e n m => (rC _ m).elim n fun z => by rw [e] at z; cases z
      have one : On37 K H HC p l1 l2 s sa HH PP R A0 B0 W0 := ⟨same_out sHB oC (fun y hy => (List.mem_cons.mp hy).elim (fun e => by rw [e]; exact hp0) fun m => none_of s03 (nFA y m)), duoC, ⟨Tm, n, frC⟩, fun y hy => ⟨fresh (G := H) hy (.inr trivial), fun m => by
        simp only [List.mem_cons, List.not_mem_nil, or_false] at m
        rcases m with e | e | e <;> rw [e] at hy
        · exact nR huB pFA hy
        · exact nR hl1B l1FA hy
        · exact nR hl2B l2FA hy⟩, oC _ _ l1O hl1B, oC _ _ l2O hl2B⟩
      have potC' : PotOk HC p 400 := potC.le (by omega)
      clear oC rC duoC frC potC latB latA xA bB bA b2B sHB nR fresh
      refine ⟨_, rfl, rfl, _, rfl, iteF ?_⟩
      obtain ⟨F, G, xl, xs, ok, dj, eR⟩ := id one.duo
      obtain ⟨Tm, n, fr⟩ := id one.fair
      refine ⟨_, rfl, _, rfl, sa, l2, G, A0, B0, W0, Tm, n, PP, HH, rfl, xs, ok, fr, ndp, one.h2, fun HD o F2 stg => ?_⟩
      have nsO : s ≠ o := fun z => by
        have e := stg.fr o (lat_self stg.lat)
        obtain ⟨u, hu, _⟩ := Lat.reg xl s (lat_self xl)
        rw [z, e] at hu
        cases hu
      have F2a : ∀ y ∈ F2, y ∉ R := fun y hy m => by
        obtain ⟨u, hu, _⟩ := Duo.reg one.duo y m
        rw [stg.fr y hy] at hu
        cases hu
      have F2b : ∀ y ∈ F2, y ≠ p := fun y hy z => by
        obtain ⟨u, hu⟩ := potEx potC'
        rw [← z, stg.fr y hy] at hu
        cases hu
      have oneD := one.same stg.sm
      have potD := potC'.same stg.sm
      have latD := stg.lat
      have okD := stg.okk
      have alD := fall_alike ok
      clear one potC'
      refine ⟨fun σ' H' => σ' = [some (.ref a), some (.int (0 + (i : Int))), some (.ref p), some (.ref l1), some (.ref l2), some (.ref s), some (.ref sa), some (.ref o), v8, v9, v10] ∧ Same HD H', ?_, ?_⟩
      · obtain ⟨dx, b0, b1, b2, ds, ls, ws, x, _, _⟩ := id latD
        exact ⟨_, rfl, o, dx, _, rfl, x.hs, rfl, o, F2, _, _, _, PP, HH, rfl, latD, okD, oneD.fwt, fun ks hks => ⟨fun H9 s9 _ => ⟨rfl, s9⟩, fun H9 t r s9 _ _ _ => ⟨rfl, s9⟩⟩⟩
      rintro _ HE ⟨rfl, sE⟩
      have lat : ∀ {H' : Hp}, Same HD H' → Lat K H' o F2 (fallH A0) B0 W0 := fun sm => latD.out (X := []) (Out.of sm) (Keep.of sm) fun _ _ z => nomatch z
      have oneE := oneD.same sE
      obtain ⟨F, G, xlE, xsE, -, djE, eRE⟩ := id oneE.duo
      refine ⟨_, rfl, _, rfl, s, o, F, F2, A0, B0, _, _, _, _, PP, HH, PP, HH, true, rfl, nsO, xlE, ok, oneE.wt, lat sE, okD, oneE.fwt, ⟨fun _ => alD, fun _ => rfl⟩, fun HF sF => ⟨true, rfl, iteF ?_⟩⟩
      have oneF := oneE.same sF
      have sDF := sE.trans sF
      obtain ⟨_, G, -, xsF, -, -, -⟩ := id oneF.duo
      refine ⟨_, rfl, _, rfl, _, rfl, _, rfl, o, sa, l1, l2, F2, G, A0, fallH A0, B0, W0, PP, HH, rfl, lat sDF, xsF, okD, ok, (fun p => fall_perm), oneF.h1, oneF.h2, ndp, by omega, fun HG sG => ⟨true, rfl, iteF ?_⟩⟩
      have oneG := oneF.same sG
      have sDG := sDF.trans sG
      refine ⟨_, rfl, l2, rfl, ⟨_, SqL.of oneG.h2⟩, fun D hD => ?_⟩
      have sN := same_new (o := .lst []) hD
      refine RU.out_it (walk_list (xs := PP.map V.int)) (fun j H' => Same HG H' ∧ H' D = some (.lst ((heldP A0 (PP.take j)).map V.int))) ⟨sN, upd_same⟩ (fun j H' _ z => SqL.of (z.1 _ _ oneG.h2)) ?_ ?_
      · rintro j y H5 H6 hj ⟨s5, hD5⟩ ⟨rfl, hy⟩
        obtain ⟨page, hpg, rfl⟩ := map_at hy
        have one5 := oneG.same s5
        obtain ⟨_, G5, -, ⟨hd, ln, es, fs, y5⟩, -, -, -⟩ := id one5.duo
        have et : heldP A0 (PP.take (j + 1)) = heldP A0 (PP.take j) ++ if (!(A0 page).isEmpty) = true then [page] else [] := by
          unfold heldP
          rw [List.take_add_one, hpg, List.filter_append]
          show _ ++ [page].filter _ = _
          rw [List.filter_cons]
          rfl
        have small : (heldP A0 (PP.take j)).length ≤ 100 := by
          have h1 := List.length_filter_le (fun p => !(A0 p).isEmpty) (PP.take j)
          rw [List.length_take] at h1
          show (List.filter _ _).length ≤ 100
          omega
        refine ⟨rfl, _, rfl, sa, _, rfl, y5.held, hd, rfl, .inl ⟨_, .inl y5.hh⟩, _, rfl, Nat.zero_le _, fun e he => ?_⟩
        have s6 := same_new (o := .lst []) he
        have he1 : upd H6 e (.lst []) e = some (.lst []) := upd_same
        have y6 := y5.same s6
        generalize upd H6 e (.lst []) = H7 at s6 he1 y6 ⊢
        refine ⟨_, DGet.k (k := .inl page) y6.hh, ?_⟩
        obtain ⟨l, el, ⟨xs7, hl7, hx7⟩, _⟩ := y6.get_held he1 page
        rw [el]
        refine ⟨Nat.zero_le _, fun q hq => ?_⟩
        have s7 := same_new (o := .lst []) hq
        have hq2 : upd H7 q (.lst []) q = some (.lst []) := upd_same
        generalize upd H7 q (.lst []) = H8 at s7 hq2 ⊢
        have hl8 := s7 _ _ hl7
        have hx8 := paired_imp (fun _ _ r => HbAt.keep (Keep.of s7) r) hx7
        refine ⟨.list ((A0 page).map rowD), .list [], .lst (SqL.of hl8) (hbs_dp hx8), .lst (SqL.of hq2) .nil, shaped_hbs _, by decide, ?_⟩
        rw [eqv_nil0, map_empty]
        refine ⟨_, rfl, ?_⟩
        have s58 := (s5.trans s6).trans s7
        have hD8 := (s6.trans s7) _ _ hD5
        rw [et]
        cases hb : (!(A0 page).isEmpty) with
        | true =>
          refine iteT ⟨_, rfl, _, hD8, by rw [List.length_map]; unfold sizeLine; omega, same_upd s58 hD, ?_⟩
          rw [upd_same, if_pos rfl, List.map_append]
          rfl
        | false =>
          refine iteF ⟨s58, ?_⟩
          rw [if_neg (by simp), List.append_nil]
          exact hD8
      · rintro H5 ⟨s5, hD5⟩
        rw [List.length_map, List.take_length] at hD5
        dsimp only [gName]
        have one5 := oneG.same s5
        obtain ⟨F5, G5, xl5, -, -, -, -⟩ := id one5.duo
        obtain ⟨dx, b0, b1, b2, ds, ls, ws, x, _, _⟩ := id xl5
        refine ⟨_, rfl, s, dx, _, rfl, x.hs, s, F5, A0, B0, W0, PP, HH, PP, rfl, xl5, ok, ndp, ok.pa, fun H6 s6 => ⟨_, rfl, ?_, ?_⟩⟩
        · have h1 : ∀ l : List Int, (l.map fun p => (A0 p).length).sum ≤ 100 * l.length := fun l => by
            induction l with
            | nil => exact Nat.le_refl _
            | cons x l ih =>
              have := ok.al x
              rw [List.map_cons, List.sum_cons, List.length_cons]
              omega
          have := h1 PP
          unfold sizeLine
          omega
        rw [held_sum ok]
        have one6 := one5.same s6
        have hD6 := s6 _ _ hD5
        have s66 := s5.trans s6
        clear x xl5 one5 oneE oneF xsF xsE xlE xs xl
        refine ⟨_, rfl, Nat.zero_le _, fun q hq => ?_⟩
        have s7 := same_new (o := .lst []) hq
        have hq7 : upd H6 q (.lst []) q = some (.lst []) := upd_same
        have hD7 := s7 _ _ hD6
        have one7 := one6.same s7
        have s67 := s66.trans s7
        generalize upd H6 q (.lst []) = H7 at s7 hq7 hD7 one7 s67 ⊢
        refine ⟨.list ((heldP A0 PP).map PyData.int), .list [], .lst (SqL.of hD7) (dpa_ints _), .lst (SqL.of hq7) .nil, shaped_ints _, by decide, ?_⟩
        rw [eqv_nil0, map_empty]
        refine ⟨rfl, _, rfl, ?_⟩
        have dd : decide (V.bl (!(heldP A0 PP).isEmpty) = V.bl (!(heldP A0 PP).isEmpty)) = true := decide_eq_true rfl
        rw [dd]
        refine iteF ?_
        refine ⟨_, rfl, fun s3 d3 hs3 hd3 nn => ?_⟩
        refine ⟨s3, d3, rfl, upd_same, fun HJ c0 c1 c2 bJ cn0 cn1 cn2 ndJ xJ => ⟨rfl, _, rfl, Nat.zero_le _, fun q2 hq2 => ?_⟩⟩
        have sJ : Same H7 HJ := made hs3 hd3 bJ
        have latJ : Lat K HJ s3 [s3, c0, c1, c2] (fun _ => []) (fun _ => []) (fun _ => none) := ⟨d3, c0, c1, c2, [], [], [], xJ, (fun q hq => nomatch hq), (fun q hq => nomatch hq)⟩
        have s8 := same_new (o := .lst []) hq2
        have hq8 : upd HJ q2 (.lst []) q2 = some (.lst []) := upd_same
        have hD8 := (sJ.trans s8) _ _ hD7
        have one8 := one7.same (sJ.trans s8)
        have s78 := (s67.trans sJ).trans s8
        have lat8 : Lat K (upd HJ q2 (.lst [])) s3 [s3, c0, c1, c2] (fun _ => []) (fun _ => []) (fun _ => none) := latJ.out (X := []) (Out.of s8) (Keep.of s8) fun _ _ z => nomatch z
        generalize upd HJ q2 (.lst []) = H8 at s8 hq8 hD8 one8 s78 lat8 ⊢
        refine ⟨.list ((heldP A0 PP).map PyData.int), .list [], .lst (SqL.of hD8) (dpa_ints _), .lst (SqL.of hq8) .nil, shaped_ints _, by decide, ?_⟩
        rw [eqv_nil0, map_empty]
        obtain ⟨F8, G8, xl8, -, -, -, -⟩ := id one8.duo
        have ns3 : s ≠ s3 := fun z => by
          obtain ⟨_, _, xl7, -, -, -, -⟩ := id one7.duo
          obtain ⟨u, hu, _⟩ := Lat.reg xl7 s (lat_self xl7)
          rw [z, hs3] at hu
          cases hu
        refine ⟨s, s3, F8, _, A0, B0, _, _, W0, _, PP, HH, PP, HH, _, rfl, ns3, xl8, ok, one8.wt, lat8, okk0, (fun _ z => absurd rfl z), (held_nil ok).trans ⟨fun h => bare_alike h one8.wt, fun al p => srt_nil.mp ((al p).1.trans (srt_nil.mpr rfl))⟩, fun HK sK => ⟨true, rfl, iteF ?_⟩⟩
        have oneK := one8.same sK
        have sGK := s78.trans sK
        have sDK := sDG.trans sGK
        have potK := potD.same sDK
        have latK := lat sDK
        clear one8 lat8 xl8 latJ xJ one7 one6 oneG oneD
        obtain ⟨F9, G9, xl9, xs9, -, dj9, eR9⟩ := id oneK.duo
        refine ⟨fun σ' H' => ∃ mv, σ' = [some (.ref a), some (.int (0 + (i : Int))), some (.ref p), some (.ref l1), some (.ref l2), some (.ref s), some (.ref sa), some (.ref o), some (.ref D), some mv, v10] ∧ But p HK H' ∧ PotOk H' p 500 ∧ (mv = .non ∨ ∃ (t : Addr) (hand page : Int) (l lone : Bool), mv = .ref t ∧ H' t = some (.tup [.str (if l = true then "let" else "take"), .int hand, .int page, .bl lone]) ∧ hand ∈ HH ∧ page ∈ PP ∧ W0 hand = none ∧ (l = true ↔ hand ∈ (A0 page).map (·.1))), ?_, ?_⟩
        · exact ⟨_, rfl, _, rfl, _, rfl, _, rfl, p, sa, l1, l2, G9, A0, B0, W0, PP, HH, 3, 400, rfl, xs9, ok, oneK.h1, oneK.h2, potK, by decide, fun m => oneK.pR.1 ((eR9 p).mpr (.inr m)), l1p, l2p, nP, by decide, by decide, fun Hb bb potb => ⟨_, rfl, bb, potb.le (by omega), .inl rfl⟩, fun Hb t hand page l lone bb potb htb hH hP hW hl => ⟨_, rfl, bb, potb.le (by omega), .inr ⟨t, hand, page, l, lone, rfl, htb, hH, hP, hW, hl⟩⟩⟩
        rintro _ HL ⟨mv, rfl, bL, potL, hmv⟩
        have oneL := oneK.but potK bL hp0 l1p l2p
        have latL := latK.out (X := [p]) (Out.but bL) (pot_keep potK bL) fun y hy z => F2b y hy (List.mem_singleton.mp z)
        rcases hmv with rfl | ⟨t, hand, page, l, lone, rfl, htb, hH, hP, hW, hl⟩
        · exact ⟨_, rfl, rfl, _, rfl, iteF ⟨_, _, _, _, _, _, _, _, _, _, rfl, oneL.sm⟩⟩
        refine ⟨_, rfl, rfl, _, rfl, iteT ?_⟩
        refine ⟨_, rfl, _, rfl, _, rfl, s, sa, t, R, A0, B0, W0, PP, HH, hand, page, l, lone, rfl, oneL.duo, htb, hH, hP, hW, hl, fun HM R' oM rM duoM => ⟨true, rfl, iteF ?_⟩⟩
        have fr' : ∃ Tm' n', Fair (mvA A0 B0 l hand page lone) (mvB A0 B0 l hand page lone) Tm' n' := by
          obtain ⟨Tm, n, fr⟩ := oneL.fair
          cases l with
          | true => exact ⟨Tm, n, fair_let fr⟩
          | false => exact ⟨_, _, fair_take ok fr hW fun m => by have := hl.mpr m; cases this⟩
        have oneM := oneL.step potL oM rM duoM fr'
        have latM := latL.out (X := R) oM (out_keep oM (Duo.reg oneL.duo)) F2a
        obtain ⟨FM, GM, xlM, xsM, okM, djM, eRM⟩ := id duoM
        have nal := not_alike (l := l) (lone := lone) ok hW hl
        refine ⟨_, rfl, _, rfl, s, o, FM, F2, _, _, _, _, _, _, PP, HH, PP, HH, false, rfl, nsO, xlM, okM, oneM.wt, latM, okD, oneK.fwt, ⟨nofun, fun al => absurd al nal⟩, fun HN sN => ⟨true, rfl, iteF ?_⟩⟩
        have oneN := oneM.same sN
        obtain ⟨FN, GN, xlN, xsN, -, -, -⟩ := id oneN.duo
        obtain ⟨Tm', n', frN⟩ := id oneN.fair
        refine ⟨_, rfl, _, rfl, _, rfl, sa, l2, GN, _, _, _, Tm', n', PP, HH, rfl, xsN, okM, frN, ndp, oneN.h2, fun HO s5 F5 stg5 => ?_⟩
        have ns5 : s ≠ s5 := fun z => by
          have e := stg5.fr s5 (lat_self stg5.lat)
          obtain ⟨u, hu, _⟩ := Lat.reg xlN s (lat_self xlN)
          rw [z, e] at hu
          cases hu
        have oneO := oneN.same stg5.sm
        obtain ⟨FO, GO, xlO, -, -, -, -⟩ := id oneO.duo
        exact ⟨s, s5, FO, F5, _, _, _, _, _, _, PP, HH, PP, HH, true, rfl, ns5, xlO, okM, oneO.wt, stg5.lat, stg5.okk, oneO.fwt, ⟨fun _ => fall_alike okM, fun _ => rfl⟩, fun HP' sP => ⟨true, rfl, iteF ⟨_, _, _, _, _, _, _, _, _, _, rfl, oneO.sm.trans sP⟩⟩⟩
    · rintro σ H1 ⟨v1, v2, v3, v4, v5, v6, v7, v8, v9, v10, rfl, s1⟩
      exact kq _
end
end K37

namespace K37
open PySem PySem.Spec PyProof.Rows L2 RZ HX
def d_ring_in : He.DefD := ⟨("ring_in", none), "ring_in", "ring_in", defArgs s_ring_in, defBody s_ring_in, defScope s_ring_in, [], []⟩
def d_is_whole : He.DefD := ⟨("is_whole", none), "is_whole", "is_whole", defArgs s_is_whole, defBody s_is_whole, defScope s_is_whole, [], []⟩
def d_is_between : He.DefD := ⟨("is_between", none), "is_between", "is_between", defArgs s_is_between, defBody s_is_between, defScope s_is_between, [], []⟩
def d_need_hand : He.DefD := ⟨("need_hand", none), "need_hand", "need_hand", defArgs s_need_hand, defBody s_need_hand, defScope s_need_hand, [], []⟩
def d_need_latch : He.DefD := ⟨("need_latch", none), "need_latch", "need_latch", defArgs s_need_latch, defBody s_need_latch, defScope s_need_latch, [], []⟩
def d_may_hold : He.DefD := ⟨("may_hold", none), "may_hold", "may_hold", defArgs s_may_hold, defBody s_may_hold, defScope s_may_hold, [], []⟩
def d_Latches_init : He.DefD := ⟨("Latches", some "__init__"), "__init__", "Latches.__init__", defArgs s_Latches_init, defBody s_Latches_init, defScope s_Latches_init, [], []⟩
def d_Latches_take : He.DefD := ⟨("Latches", some "take"), "take", "Latches.take", defArgs s_Latches_take, defBody s_Latches_take, defScope s_Latches_take, [], [("alone", (He.Dv.bl false))]⟩
def d_Latches_let : He.DefD := ⟨("Latches", some "let"), "let", "Latches.let", defArgs s_Latches_let, defBody s_Latches_let, defScope s_Latches_let, [], []⟩
def d_Latches_need_no_wait : He.DefD := ⟨("Latches", some "need_no_wait"), "need_no_wait", "Latches.need_no_wait", defArgs s_Latches_need_no_wait, defBody s_Latches_need_no_wait, defScope s_Latches_need_no_wait, [], []⟩
def d_Latches_holders : He.DefD := ⟨("Latches", some "holders"), "holders", "Latches.holders", defArgs s_Latches_holders, defBody s_Latches_holders, defScope s_Latches_holders, [], []⟩
def d_Latches_queue : He.DefD := ⟨("Latches", some "queue"), "queue", "Latches.queue", defArgs s_Latches_queue, defBody s_Latches_queue, defScope s_Latches_queue, [], []⟩
def d_Latches_held : He.DefD := ⟨("Latches", some "held"), "held", "Latches.held", defArgs s_Latches_held, defBody s_Latches_held, defScope s_Latches_held, [], []⟩
def d_Latches_awaited : He.DefD := ⟨("Latches", some "awaited"), "awaited", "Latches.awaited", defArgs s_Latches_awaited, defBody s_Latches_awaited, defScope s_Latches_awaited, [], []⟩
def d_Latches_blockers : He.DefD := ⟨("Latches", some "blockers"), "blockers", "Latches.blockers", defArgs s_Latches_blockers, defBody s_Latches_blockers, defScope s_Latches_blockers, [], []⟩
def d_Latches_ring : He.DefD := ⟨("Latches", some "ring"), "ring", "Latches.ring", defArgs s_Latches_ring, defBody s_Latches_ring, defScope s_Latches_ring, [], []⟩
def d_Latches_state : He.DefD := ⟨("Latches", some "state"), "state", "Latches.state", defArgs s_Latches_state, defBody s_Latches_state, defScope s_Latches_state, [], []⟩
def d_Latches_eq : He.DefD := ⟨("Latches", some "__eq__"), "__eq__", "Latches.__eq__", defArgs s_Latches_eq, defBody s_Latches_eq, defScope s_Latches_eq, [], []⟩
def d_Latches_len : He.DefD := ⟨("Latches", some "__len__"), "__len__", "Latches.__len__", defArgs s_Latches_len, defBody s_Latches_len, defScope s_Latches_len, [], []⟩
def d_law_pot : He.DefD := ⟨("_law_pot", none), "_law_pot", "_law_pot", defArgs s_law_pot, defBody s_law_pot, defScope s_law_pot, [], []⟩
def d_law_take : He.DefD := ⟨("_law_take", none), "_law_take", "_law_take", defArgs s_law_take, defBody s_law_take, defScope s_law_take, [], []⟩
def d_law_same : He.DefD := ⟨("_law_same", none), "_law_same", "_law_same", defArgs s_law_same, defBody s_law_same, defScope s_law_same, [], []⟩
def d_law_unlike : He.DefD := ⟨("_law_unlike", none), "_law_unlike", "_law_unlike", defArgs s_law_unlike, defBody s_law_unlike, defScope s_law_unlike, [], []⟩
def d_law_named : He.DefD := ⟨("_law_named", none), "_law_named", "_law_named", defArgs s_law_named, defBody s_law_named, defScope s_law_named, [], []⟩
def d_law_none : He.DefD := ⟨("_law_none", none), "_law_none", "_law_none", defArgs s_law_none, defBody s_law_none, defScope s_law_none, [], []⟩
def d_law_fits : He.DefD := ⟨("_law_fits", none), "_law_fits", "_law_fits", defArgs s_law_fits, defBody s_law_fits, defScope s_law_fits, [], []⟩
def d_law_awaits : He.DefD := ⟨("_law_awaits", none), "_law_awaits", "_law_awaits", defArgs s_law_awaits, defBody s_law_awaits, defScope s_law_awaits, [], []⟩
def d_law_grips : He.DefD := ⟨("_law_grips", none), "_law_grips", "_law_grips", defArgs s_law_grips, defBody s_law_grips, defScope s_law_grips, [], []⟩
def d_law_taken : He.DefD := ⟨("_law_taken", none), "_law_taken", "_law_taken", defArgs s_law_taken, defBody s_law_taken, defScope s_law_taken, [], []⟩
def d_law_left : He.DefD := ⟨("_law_left", none), "_law_left", "_law_left", defArgs s_law_left, defBody s_law_left, defScope s_law_left, [], []⟩
def d_law_move : He.DefD := ⟨("_law_move", none), "_law_move", "_law_move", defArgs s_law_move, defBody s_law_move, defScope s_law_move, [], []⟩
def d_law_done : He.DefD := ⟨("_law_done", none), "_law_done", "_law_done", defArgs s_law_done, defBody s_law_done, defScope s_law_done, [], []⟩
def d_law_stands : He.DefD := ⟨("_law_stands", none), "_law_stands", "_law_stands", defArgs s_law_stands, defBody s_law_stands, defScope s_law_stands, [], []⟩
def d_law_begun : He.DefD := ⟨("_law_begun", none), "_law_begun", "_law_begun", defArgs s_law_begun, defBody s_law_begun, defScope s_law_begun, [], []⟩
def d_law_straight : He.DefD := ⟨("_law_straight", none), "_law_straight", "_law_straight", defArgs s_law_straight, defBody s_law_straight, defScope s_law_straight, [], []⟩
def d_law_alike : He.DefD := ⟨("_law_alike", none), "_law_alike", "_law_alike", defArgs s_law_alike, defBody s_law_alike, defScope s_law_alike, [], []⟩
def d_law : He.DefD := ⟨("law", none), "law", "law", defArgs s_law, defBody s_law, defScope s_law, [], []⟩
def fn : List He.DefD := [d_ring_in, d_is_whole, d_is_between, d_need_hand, d_need_latch, d_may_hold, d_Latches_init, d_Latches_take, d_Latches_let, d_Latches_need_no_wait, d_Latches_holders, d_Latches_queue, d_Latches_held, d_Latches_awaited, d_Latches_blockers, d_Latches_ring, d_Latches_state, d_Latches_eq, d_Latches_len, d_law_pot, d_law_take, d_law_same, d_law_unlike, d_law_named, d_law_none, d_law_fits, d_law_awaits, d_law_grips, d_law_taken, d_law_left, d_law_move, d_law_done, d_law_stands, d_law_begun, d_law_straight, d_law_alike, d_law]
def fa : List He.Fa := [.glo "ring_in", .glo "is_whole", .glo "is_between", .glo "need_hand", .glo "need_latch", .glo "may_hold", .meth "Latches" "take", .meth "Latches" "let", .meth "Latches" "need_no_wait", .meth "Latches" "holders", .meth "Latches" "queue", .meth "Latches" "held", .meth "Latches" "awaited", .meth "Latches" "blockers", .meth "Latches" "ring", .meth "Latches" "state", .meth "Latches" "__eq__", .meth "Latches" "__len__", .glo "_law_pot", .glo "_law_take", .glo "_law_same", .glo "_law_unlike", .glo "_law_named", .glo "_law_none", .glo "_law_fits", .glo "_law_awaits", .glo "_law_grips", .glo "_law_taken", .glo "_law_left", .glo "_law_move", .glo "_law_done", .glo "_law_stands", .glo "_law_begun", .glo "_law_straight", .glo "_law_alike", .glo "law", .glo "GroveError", .glo "NoPage", .glo "NoHand", .glo "Waits", .glo "Holds", .glo "HoldsNot", .glo "Latches", .cls "Latches", .mkr "Latches", .noat "Latches" "holding", .noat "Latches" "lines", .noat "Latches" "wanted", .noat "Latches" "__bool__", .int "LAST_PAGE" 1000000, .int "LAST_HAND" 60, .free "abs", .free "all", .free "any", .free "bool", .free "int", .free "isinstance", .free "len", .free "list", .free "max", .free "min", .free "range", .free "sorted", .free "str", .free "tuple", .free "zip"]
def ex (K : PySem.W.Frag) : Bool := He.eqO (PySem.W.findIn K (.ref (He.ga K "Latches")) "__ne__") (some (some (.builtin "object.__ne__"))) && (He.eqO (PySem.W.findIn K (.ref (He.ga K "Latches")) "__class__") (some (some (.builtin "object.__class__"))) && (He.eqO (PySem.W.specialIn K (.builtin "object.__class__") "__get__") (some (some (.builtin "getset_descriptor.__get__"))) && decide (PySem.W.takesIn K (.builtin "object.__class__") = some true)))
theorem tx {K : PySem.W.Frag} {h : Heap} {mg : Str → Option Value} (X : K.In h) (G : h.Ns mainGlobals mg) (c : He.SaysD fa fn K) (cx : ex K = true) : Nonempty (TX K mg) := by
  obtain ⟨cx1, cx⟩ := He.ba cx
  obtain ⟨cx2, cx⟩ := He.ba cx
  obtain ⟨cx3, cx4⟩ := He.ba cx
  obtain ⟨fd_ring_in, F_ring_in⟩ := c.def_ 0 (d := d_ring_in) rfl
  obtain ⟨fd_is_whole, F_is_whole⟩ := c.def_ 1 (d := d_is_whole) rfl
  obtain ⟨fd_is_between, F_is_between⟩ := c.def_ 2 (d := d_is_between) rfl
  obtain ⟨fd_need_hand, F_need_hand⟩ := c.def_ 3 (d := d_need_hand) rfl
  obtain ⟨fd_need_latch, F_need_latch⟩ := c.def_ 4 (d := d_need_latch) rfl
  obtain ⟨fd_may_hold, F_may_hold⟩ := c.def_ 5 (d := d_may_hold) rfl
  obtain ⟨fd_Latches_init, F_Latches_init⟩ := c.def_ 6 (d := d_Latches_init) rfl
  obtain ⟨fd_Latches_take, F_Latches_take⟩ := c.def_ 7 (d := d_Latches_take) rfl
  obtain ⟨fd_Latches_let, F_Latches_let⟩ := c.def_ 8 (d := d_Latches_let) rfl
  obtain ⟨fd_Latches_need_no_wait, F_Latches_need_no_wait⟩ := c.def_ 9 (d := d_Latches_need_no_wait) rfl
  obtain ⟨fd_Latches_holders, F_Latches_holders⟩ := c.def_ 10 (d := d_Latches_holders) rfl
  obtain ⟨fd_Latches_queue, F_Latches_queue⟩ := c.def_ 11 (d := d_Latches_queue) rfl
  obtain ⟨fd_Latches_held, F_Latches_held⟩ := c.def_ 12 (d := d_Latches_held) rfl
  obtain ⟨fd_Latches_awaited, F_Latches_awaited⟩ := c.def_ 13 (d := d_Latches_awaited) rfl
  obtain ⟨fd_Latches_blockers, F_Latches_blockers⟩ := c.def_ 14 (d := d_Latches_blockers) rfl
  obtain ⟨fd_Latches_ring, F_Latches_ring⟩ := c.def_ 15 (d := d_Latches_ring) rfl
  obtain ⟨fd_Latches_state, F_Latches_state⟩ := c.def_ 16 (d := d_Latches_state) rfl
  obtain ⟨fd_Latches_eq, F_Latches_eq⟩ := c.def_ 17 (d := d_Latches_eq) rfl
  obtain ⟨fd_Latches_len, F_Latches_len⟩ := c.def_ 18 (d := d_Latches_len) rfl
  obtain ⟨fd_law_pot, F_law_pot⟩ := c.def_ 19 (d := d_law_pot) rfl
  obtain ⟨fd_law_take, F_law_take⟩ := c.def_ 20 (d := d_law_take) rfl
  obtain ⟨fd_law_same, F_law_same⟩ := c.def_ 21 (d := d_law_same) rfl
  obtain ⟨fd_law_unlike, F_law_unlike⟩ := c.def_ 22 (d := d_law_unlike) rfl
  obtain ⟨fd_law_named, F_law_named⟩ := c.def_ 23 (d := d_law_named) rfl
  obtain ⟨fd_law_none, F_law_none⟩ := c.def_ 24 (d := d_law_none) rfl
  obtain ⟨fd_law_fits, F_law_fits⟩ := c.def_ 25 (d := d_law_fits) rfl
  obtain ⟨fd_law_awaits, F_law_awaits⟩ := c.def_ 26 (d := d_law_awaits) rfl
  obtain ⟨fd_law_grips, F_law_grips⟩ := c.def_ 27 (d := d_law_grips) rfl
  obtain ⟨fd_law_taken, F_law_taken⟩ := c.def_ 28 (d := d_law_taken) rfl
  obtain ⟨fd_law_left, F_law_left⟩ := c.def_ 29 (d := d_law_left) rfl
  obtain ⟨fd_law_move, F_law_move⟩ := c.def_ 30 (d := d_law_move) rfl
  obtain ⟨fd_law_done, F_law_done⟩ := c.def_ 31 (d := d_law_done) rfl
  obtain ⟨fd_law_stands, F_law_stands⟩ := c.def_ 32 (d := d_law_stands) rfl
  obtain ⟨fd_law_begun, F_law_begun⟩ := c.def_ 33 (d := d_law_begun) rfl
  obtain ⟨fd_law_straight, F_law_straight⟩ := c.def_ 34 (d := d_law_straight) rfl
  obtain ⟨fd_law_alike, F_law_alike⟩ := c.def_ 35 (d := d_law_alike) rfl
  obtain ⟨fd_law, F_law⟩ := c.def_ 36 (d := d_law) rfl
  exact ⟨{ fd_ring_in := fd_ring_in, F_ring_in := F_ring_in, g_ring_in := He.glo_ok X G (c.fact 0 (f := .glo "ring_in") rfl), fd_is_whole := fd_is_whole, F_is_whole := F_is_whole, g_is_whole := He.glo_ok X G (c.fact 1 (f := .glo "is_whole") rfl), fd_is_between := fd_is_between, F_is_between := F_is_between, g_is_between := He.glo_ok X G (c.fact 2 (f := .glo "is_between") rfl), fd_need_hand := fd_need_hand, F_need_hand := F_need_hand, g_need_hand := He.glo_ok X G (c.fact 3 (f := .glo "need_hand") rfl), fd_need_latch := fd_need_latch, F_need_latch := F_need_latch, g_need_latch := He.glo_ok X G (c.fact 4 (f := .glo "need_latch") rfl), fd_may_hold := fd_may_hold, F_may_hold := F_may_hold, g_may_hold := He.glo_ok X G (c.fact 5 (f := .glo "may_hold") rfl), fd_Latches_init := fd_Latches_init, F_Latches_init := F_Latches_init, fd_Latches_take := fd_Latches_take, F_Latches_take := F_Latches_take, m_Latches_take := He.meth_ok (c.fact 6 (f := .meth "Latches" "take") rfl), fd_Latches_let := fd_Latches_let, F_Latches_let := F_Latches_let, m_Latches_let := He.meth_ok (c.fact 7 (f := .meth "Latches" "let") rfl), fd_Latches_need_no_wait := fd_Latches_need_no_wait, F_Latches_need_no_wait := F_Latches_need_no_wait, m_Latches_need_no_wait := He.meth_ok (c.fact 8 (f := .meth "Latches" "need_no_wait") rfl), fd_Latches_holders := fd_Latches_holders, F_Latches_holders := F_Latches_holders, m_Latches_holders := He.meth_ok (c.fact 9 (f := .meth "Latches" "holders") rfl), fd_Latches_queue := fd_Latches_queue, F_Latches_queue := F_Latches_queue, m_Latches_queue := He.meth_ok (c.fact 10 (f := .meth "Latches" "queue") rfl), fd_Latches_held := fd_Latches_held, F_Latches_held := F_Latches_held, m_Latches_held := He.meth_ok (c.fact 11 (f := .meth "Latches" "held") rfl), fd_Latches_awaited := fd_Latches_awaited, F_Latches_awaited := F_Latches_awaited, m_Latches_awaited := He.meth_ok (c.fact 12 (f := .meth "Latches" "awaited") rfl), fd_Latches_blockers := fd_Latches_blockers, F_Latches_blockers := F_Latches_blockers, m_Latches_blockers := He.meth_ok (c.fact 13 (f := .meth "Latches" "blockers") rfl), fd_Latches_ring := fd_Latches_ring, F_Latches_ring := F_Latches_ring, m_Latches_ring := He.meth_ok (c.fact 14 (f := .meth "Latches" "ring") rfl), fd_Latches_state := fd_Latches_state, F_Latches_state := F_Latches_state, m_Latches_state := He.meth_ok (c.fact 15 (f := .meth "Latches" "state") rfl), fd_Latches_eq := fd_Latches_eq, F_Latches_eq := F_Latches_eq, m_Latches_eq := He.meth_ok (c.fact 16 (f := .meth "Latches" "__eq__") rfl), fd_Latches_len := fd_Latches_len, F_Latches_len := F_Latches_len, m_Latches_len := He.meth_ok (c.fact 17 (f := .meth "Latches" "__len__") rfl), fd_law_pot := fd_law_pot, F_law_pot := F_law_pot, g_law_pot := He.glo_ok X G (c.fact 18 (f := .glo "_law_pot") rfl), fd_law_take := fd_law_take, F_law_take := F_law_take, g_law_take := He.glo_ok X G (c.fact 19 (f := .glo "_law_take") rfl), fd_law_same := fd_law_same, F_law_same := F_law_same, g_law_same := He.glo_ok X G (c.fact 20 (f := .glo "_law_same") rfl), fd_law_unlike := fd_law_unlike, F_law_unlike := F_law_unlike, g_law_unlike := He.glo_ok X G (c.fact 21 (f := .glo "_law_unlike") rfl), fd_law_named := fd_law_named, F_law_named := F_law_named, g_law_named := He.glo_ok X G (c.fact 22 (f := .glo "_law_named") rfl), fd_law_none := fd_law_none, F_law_none := F_law_none, g_law_none := He.glo_ok X G (c.fact 23 (f := .glo "_law_none") rfl), fd_law_fits := fd_law_fits, F_law_fits := F_law_fits, g_law_fits := He.glo_ok X G (c.fact 24 (f := .glo "_law_fits") rfl), fd_law_awaits := fd_law_awaits, F_law_awaits := F_law_awaits, g_law_awaits := He.glo_ok X G (c.fact 25 (f := .glo "_law_awaits") rfl), fd_law_grips := fd_law_grips, F_law_grips := F_law_grips, g_law_grips := He.glo_ok X G (c.fact 26 (f := .glo "_law_grips") rfl), fd_law_taken := fd_law_taken, F_law_taken := F_law_taken, g_law_taken := He.glo_ok X G (c.fact 27 (f := .glo "_law_taken") rfl), fd_law_left := fd_law_left, F_law_left := F_law_left, g_law_left := He.glo_ok X G (c.fact 28 (f := .glo "_law_left") rfl), fd_law_move := fd_law_move, F_law_move := F_law_move, g_law_move := He.glo_ok X G (c.fact 29 (f := .glo "_law_move") rfl), fd_law_done := fd_law_done, F_law_done := F_law_done, g_law_done := He.glo_ok X G (c.fact 30 (f := .glo "_law_done") rfl), fd_law_stands := fd_law_stands, F_law_stands := F_law_stands, g_law_stands := He.glo_ok X G (c.fact 31 (f := .glo "_law_stands") rfl), fd_law_begun := fd_law_begun, F_law_begun := F_law_begun, g_law_begun := He.glo_ok X G (c.fact 32 (f := .glo "_law_begun") rfl), fd_law_straight := fd_law_straight, F_law_straight := F_law_straight, g_law_straight := He.glo_ok X G (c.fact 33 (f := .glo "_law_straight") rfl), fd_law_alike := fd_law_alike, F_law_alike := F_law_alike, g_law_alike := He.glo_ok X G (c.fact 34 (f := .glo "_law_alike") rfl), fd_law := fd_law, F_law := F_law, g_law := He.glo_ok X G (c.fact 35 (f := .glo "law") rfl), g_GroveError := He.glo_ok X G (c.fact 36 (f := .glo "GroveError") rfl), g_NoPage := He.glo_ok X G (c.fact 37 (f := .glo "NoPage") rfl), g_NoHand := He.glo_ok X G (c.fact 38 (f := .glo "NoHand") rfl), g_Waits := He.glo_ok X G (c.fact 39 (f := .glo "Waits") rfl), g_Holds := He.glo_ok X G (c.fact 40 (f := .glo "Holds") rfl), g_HoldsNot := He.glo_ok X G (c.fact 41 (f := .glo "HoldsNot") rfl), g_Latches := He.glo_ok X G (c.fact 42 (f := .glo "Latches") rfl), cl_Latches := He.cls_ok (c.fact 43 (f := .cls "Latches") rfl), ne_Latches := He.eqO_ok cx1, kc_Latches := He.eqO_ok cx2, kg_Latches := He.eqO_ok cx3, kt_Latches := of_decide_eq_true cx4, mk_Latches := He.mkr_ok (c.fact 44 (f := .mkr "Latches") rfl), na_Latches_holding := He.noat_ok (c.fact 45 (f := .noat "Latches" "holding") rfl), na_Latches_lines := He.noat_ok (c.fact 46 (f := .noat "Latches" "lines") rfl), na_Latches_wanted := He.noat_ok (c.fact 47 (f := .noat "Latches" "wanted") rfl), na_Latches___bool__ := He.noat_ok (c.fact 48 (f := .noat "Latches" "__bool__") rfl), g_LAST_PAGE := He.int_ok X G (c.fact 49 (f := .int "LAST_PAGE" 1000000) rfl), g_LAST_HAND := He.int_ok X G (c.fact 50 (f := .int "LAST_HAND" 60) rfl), n_abs := He.free_ok X G (c.fact 51 (f := .free "abs") rfl), n_all := He.free_ok X G (c.fact 52 (f := .free "all") rfl), n_any := He.free_ok X G (c.fact 53 (f := .free "any") rfl), n_bool := He.free_ok X G (c.fact 54 (f := .free "bool") rfl), n_int := He.free_ok X G (c.fact 55 (f := .free "int") rfl), n_isinstance := He.free_ok X G (c.fact 56 (f := .free "isinstance") rfl), n_len := He.free_ok X G (c.fact 57 (f := .free "len") rfl), n_list := He.free_ok X G (c.fact 58 (f := .free "list") rfl), n_max := He.free_ok X G (c.fact 59 (f := .free "max") rfl), n_min := He.free_ok X G (c.fact 60 (f := .free "min") rfl), n_range := He.free_ok X G (c.fact 61 (f := .free "range") rfl), n_sorted := He.free_ok X G (c.fact 62 (f := .free "sorted") rfl), n_str := He.free_ok X G (c.fact 63 (f := .free "str") rfl), n_tuple := He.free_ok X G (c.fact 64 (f := .free "tuple") rfl), n_zip := He.free_ok X G (c.fact 65 (f := .free "zip") rfl) }⟩
def loose : List Str := (["_wall", "__name__", "GroveError", "NoPage", "NoHand", "Waits", "Holds", "HoldsNot", "ring_in", "LAST_PAGE", "is_whole", "is_between"] : List Str) ++ (["LAST_HAND", "need_hand", "need_latch", "may_hold", "Latches", "_law_pot", "_law_take", "_law_same", "_law_unlike", "_law_named", "_law_none", "_law_fits"] : List Str) ++ (["_law_awaits", "_law_grips", "_law_taken", "_law_left", "_law_move", "_law_done", "_law_stands", "_law_begun", "_law_straight", "_law_alike"] : List Str)
abbrev R : PySem.W.OpenRow := PySem.W.OpenLaw.row PySem.Challenge.rw_latchgrove_k37_latches_alike
abbrev hk : PySem.W.Hook := OQ.hookE 5 ex fa fn
def ob (s : PySem.W.SharedT) : He.AlD := OQ.obsEG 5 ex fa fn (HandSHeadRun.getT s)
theorem ob_eq (s : PySem.W.SharedT) : ob s = hk.obs s.abs := OQ.obsEG_eq (HandSHeadRun.getT_eq s)
theorem run (w : World) : HandSHeadRun.RunEq R (PySem.W.view R.prog [38]) hk ob 12000 loose w := by
  intro os
  kernel_rfl
end K37

open PySem PySem.W PySem.Calls PyProof.Rows
theorem PySem.Challenge.cw_latchgrove_k37_latches_alike_holds : PySem.Challenge.rw_latchgrove_k37_latches_alike.Holds := by
  w_on; o_law
  refine HandSHeadRun.head_any (r := OpenLaw.row PySem.Challenge.rw_latchgrove_k37_latches_alike) (q := view (OpenLaw.row PySem.Challenge.rw_latchgrove_k37_latches_alike).prog [38]) (H := K37.hk) (ob := K37.ob) (M := 12000) (loose := K37.loose) (d := HandSHeadRun.topDef (OpenLaw.row PySem.Challenge.rw_latchgrove_k37_latches_alike).prog 38) (kwd := []) K37.ob_eq
    (by kernel_rfl) (fun s => by kernel_rfl) K37.run (by kernel_rfl) (by kernel_rfl) (by kernel_rfl) (by rfl) (by first | assumption | decide +kernel) (by decide +kernel) ⟨rfl, rfl, rfl, rfl, rfl, by decide +kernel⟩ ?hw ?hc
  case hw => w_witness2
  case hc =>
    refine L2.walk_ofE (l := PySem.Challenge.rw_latchgrove_k37_latches_alike) (n := 63) (k := 30) (x := "script") (CX := L2.CX0) rfl (by decide) (by kernel_rfl) ⟨rfl, by decide, by decide⟩ ?F (fun _ _ _ _ z => z)
    intro w mg fa h Y G hmg0
    obtain ⟨K, KX, c, cx⟩ := Y
    have hmg : mg ("law" : PySem.Str) = some (.ref fa) := by
      have e : (HandSHeadRun.topDef (OpenLaw.row PySem.Challenge.rw_latchgrove_k37_latches_alike).prog 38).name = ("law" : PySem.Str) := by kernel_rfl
      rw [← e]
      exact hmg0
    obtain ⟨T⟩ := K37.tx KX G c cx
    have e := hmg.symm.trans T.g_law
    cases e
    have b := L2.FunD.bindsA (ps := ["script"]) T.F_law fun _ _ _ _ _ _ us hl => match us, hl with | [_], _ => rfl
    exact ⟨K, T.fd_law, K37.sp_law K, KX, fun s v => b s [v] rfl, fun H a ns hl _ hS => ⟨a, ns, rfl, hS, hl, fun _ => rfl⟩, fun base _ _ => K37.ok_law T⟩

