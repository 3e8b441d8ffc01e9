import PyProof.Rows.All
import Wide.All
import OpenK.AllK
import Wide.FinOn
import KE.KStateDown
import Lean
import HandS.ForMost
import HandS.Wide
import HandS.IsInst
import HandS.Zip
import HandS.Walk
import HandS.Style
import HandS.Defaults
import HandS.MakeKwOnly
import HandS.CallRecv
import HandS.Sort
import HandS.Evl
import HandS.DictTup
import HandS.SortOrd
import HandS.Deep
import HandS.Head0
import HandS.Head1
import HandS.Head2
import HandS.HeadEnd
import HandS.HeadHook1
import HandS.HeadHook2
import HandS.TupAny
import KE.GoesNew
import KE.GoesMore
import HandS.Star
import KE.KDictPairs
import HandS.WordsDict
import HandS.SortRule
import HandS.More
import HandS.Strs
import HandS.SetFor
import HandS.SortInts
import HandS.TupMul
import HandS.Conv
import HandS.Flow
import PySem.Challenge.RW_latchgrove_k12_whole_ways_by_rank
set_option Elab.async false
set_option linter.all false
set_option maxRecDepth 100000
set_option maxHeartbeats 8000000
namespace HX
open PySem PySem.Spec PyProof.Rows L2

/-! ### numbers -/
def CPowW (i j : Int) : Prop := 0 ≤ j ∧ (Builtin.Int.intBits i : Int) * j ≤ 2 ^ 27
section
variable {X : Cx}
theorem op_powW : OpR X (binaryOp .Pow) (rI CPowW fun i j => .int (i ^ j.toNat)) := opI fun _ _ _ _ _ _ _ hc q => pow_int hc.1 hc.2 q
end
theorem intBits_le (x : Int) : Builtin.Int.intBits x ≤ x.natAbs.log2 + 1 := by
  unfold Builtin.Int.intBits
  split <;> omega
theorem powW_of {i j : Int} {a : Nat} (h0 : 0 ≤ j) (ha : i.natAbs < 2 ^ a) (hp : 0 < a) (h : (a : Int) * j ≤ 2 ^ 27) : CPowW i j := by
  refine ⟨h0, ?_⟩
  have x := PySem.Flt.log2_lt_of hp ha
  have y := intBits_le i
  have z : (Builtin.Int.intBits i : Int) ≤ (a : Int) := by omega
  exact Int.le_trans (Int.mul_le_mul_of_nonneg_right z h0) h

/-! ### xs[i] op= e -/
section
variable {X : Cx}
theorem get_list : PGet X (rIxL X.K) := by
  intro pins s σ H o i ov iv Q I rx ry h
  obtain ⟨p, xs, k, z, rfl, rfl, hq, he, q⟩ := h
  cases rx
  obtain ⟨t, rfl⟩ := ry
  obtain ⟨its, r, pl, hz⟩ := I.list hq
  obtain ⟨j, h1, h2, h3, h4, h5⟩ := atI_get he
  obtain ⟨w, ew, rw'⟩ := r.get h2
  have hl := r.length
  have hn := line63
  have fin : EP X pins σ Q w s := ⟨z, H, I, rw', q⟩
  by_cases h0 : 0 ≤ k
  · have hj : k.toNat = j := by
      rw [seqIndex_of h0 h5] at h1
      exact Option.some.inj h1
    exact wpAny_getItem_list pl.isList h0 (by omega) (by rw [hj]; simpa using ew) fin
  · have hj : (k + (its.toArray.size : Int)).toNat = j := by
      rw [seqIndex_neg (by omega) h4] at h1
      rw [List.size_toArray, ← hl]
      exact Option.some.inj h1
    exact wpAny_getItem_list_neg pl.isList (by omega) (by rw [List.size_toArray] <;> omega) (by omega) (by rw [hj]; simpa using ew) fin
end

/-! ### a walk over a range held as a value -/
section
variable {X : Cx} {tg : Expr}
def iRngV (te : TE) : TI := fun σ H R => te σ H fun v H1 => ∃ (a : Addr) (lo hi : Int), v = .ref a ∧ H1 a = some (.rng lo hi) ∧ (-(2 ^ 62) ≤ lo ∧ lo < 2 ^ 62 ∧ -(2 ^ 62) ≤ hi ∧ hi < 2 ^ 62) ∧ R (Itr lo (hi - lo).toNat) H1
theorem pi_rngV {e : Expr} {te : TE} (he : PE X e te) : PI X tg e (iRngV te) := by
  refine ⟨fun pins s σ H R I h => ?_⟩
  refine thn (he.run pins s σ H _ I h) fun u s1 ⟨x, H1, I1, rx, a, lo, hi, ex, ea, ⟨h1, h2, h3, h4⟩, q⟩ => ?_
  subst ex
  obtain rfl : u = Value.ref a := rx
  obtain ⟨t, u, v, ho⟩ := I1.hok _ _ ea
  refine wpAny_pyIter_range ho (small_one h1 h2 h3 h4) ?_
  refine ⟨s1.heap.objs.size, [s1.heap.objs.size], _, _, H1, rfl,
    I1.kept (t' := s1.toks) fun b o e => Heap.get?_push_of_some _ e, turn_range _ lo (hi - lo).toNat, ?_, fun b hb => ?_, q⟩
  · have e1 : lo + ((0 : Nat) : Int) * 1 = lo := by simp
    have e2 : (((hi - lo).toNat : Nat) : Int) - ((0 : Nat) : Int) = Builtin.Range.rangeSize lo hi 1 := by rw [rangeSize_one]; split <;> omega
    show IsRangeIter _ _ (lo + ((0 : Nat) : Int) * 1) ((((hi - lo).toNat : Nat) : Int) - ((0 : Nat) : Int)) 1
    rw [e1, e2]
    exact Heap.get?_push_size _ rfl
  · have e : b = s1.heap.objs.size := by simpa using hb
    subst e
    exact I1.fpOk (Nat.le_refl _) (I1.hok.fresh (Nat.le_refl _))
end

/-! ### heaps -/
theorem same_upd {H H' : Hp} {p : Addr} {o : HO} (s : Same H H') (h : H p = none) : Same H (upd H' p o) := fun b u e => by
  rw [upd_ne (fun z => by rw [z, h] at e; cases e)]
  exact s b u e
theorem same_new {H : Hp} {p : Addr} {o : HO} (h : H p = none) : Same H (upd H p o) := same_upd (Same.refl H) h
/-- all but what stands at p is as it was -/
def But (p : Addr) (H H' : Hp) : Prop := ∀ b o, b ≠ p → H b = some o → H' b = some o
theorem But.refl (p : Addr) (H : Hp) : But p H H := fun _ _ _ h => h
theorem But.trans {p : Addr} {H H1 H2 : Hp} (a : But p H H1) (b : But p H1 H2) : But p H H2 := fun c o n h => b c o n (a c o n h)
theorem But.of {p : Addr} {H H' : Hp} (s : Same H H') : But p H H' := fun b o _ h => s b o h
theorem But.upd {p : Addr} {H H' : Hp} {o : HO} (s : But p H H') : But p H (upd H' p o) := fun b u n e => by
  rw [upd_ne n]
  exact s b u n e
theorem But.new {p q : Addr} {H H' : Hp} {o : HO} (s : But p H H') (h : H' q = none) : But p H (L2.upd H' q o) := fun b u n e => by
  have e' := s b u n e
  rw [upd_ne (ne_of_none e' h)]
  exact e'
theorem But.seq {K : PySem.W.Frag} {H H' : Hp} {p a : Addr} {xs : List V} (e : But p H H') (n : a ≠ p) (h : SqL K H a xs) : SqL K H' a xs := by
  rcases h with (h | ⟨o, h⟩) | h
  · exact .inl (.inl (e _ _ n h))
  · exact .inl (.inr ⟨o, e _ _ n h⟩)
  · exact .inr h

/-! ### names of the module, of built-in classes -/
section
variable {X : Cx} {x : Str} {pos : Pos}
theorem pe_gint {i : Int} (h : ∃ t, X.mg x = some (.int i t)) (hg : Gl X x := by rfl) (hdb : (x == ("__debug__" : Str)) = false := by decide) : PE X (.Name x pos) (tC (.int i)) := by
  obtain ⟨t, ht⟩ := h
  exact pe_glob hg ht ⟨t, rfl⟩ hdb
theorem pe_ty (n : String) (hm : X.mg x = none) (hv : bootBuiltins x = some (.type n)) (hg : Gl X x := by rfl) (hn : x ≠ ("__name__" : Str) := by decide) (hdb : (x == ("__debug__" : Str)) = false := by decide) : PE X (.Name x pos) (tC (.ty n)) := pe_bltn hg hm hv rfl hn hdb
end

/-! ### lists of whole numbers by a function of the place -/
def fl (n : Nat) (f : Nat → Int) : List V := (List.range n).map fun i => V.int (f i)
theorem fl_len (n : Nat) (f : Nat → Int) : (fl n f).length = n := by unfold fl; rw [List.length_map, List.length_range]
theorem fl_get {n : Nat} {f : Nat → Int} {i : Nat} (h : i < n) : (fl n f)[i]? = some (.int (f i)) := by
  unfold fl
  rw [List.getElem?_map, List.getElem?_range h]
  rfl
theorem fl_at {n : Nat} {f : Nat → Int} {i : Nat} (h : i < n) : atI (fl n f) (i : Int) = some (.int (f i)) := atI_nat (fl_get h)
theorem fl_at' {n : Nat} {f : Nat → Int} {i : Int} {k : Nat} (h : k < n) (e : i = (k : Int)) : atI (fl n f) i = some (.int (f k)) := by
  subst e
  exact fl_at h
theorem at_of {α : Type} {xs : List α} {i : Int} {j : Nat} {v : α} (h : xs[j]? = some v) (e : i = (j : Int)) : atI xs i = some v := by
  subst e
  exact atI_nat h
theorem at_last {α : Type} {xs : List α} {n : Nat} {v : α} (hl : xs.length = n + 1) (h : xs[n]? = some v) : atI xs (-1) = some v := by
  have e : ixN xs.length (-1) = some n := by
    unfold ixN
    rw [hl, if_neg (by decide), if_pos (by omega)]
    congr 1
    omega
  unfold atI
  rw [e]
  exact h
theorem fl_congr {n : Nat} {f g : Nat → Int} (h : ∀ i, i < n → f i = g i) : fl n f = fl n g := by
  unfold fl
  exact List.map_congr_left fun i hi => by rw [h i (List.mem_range.mp hi)]
theorem fl_set {n : Nat} {f : Nat → Int} {j : Nat} (v : Int) (h : j < n) : (fl n f).set j (.int v) = fl n (fun i => if i = j then v else f i) := by
  refine List.ext_getElem? fun i => ?_
  by_cases hi : i < n
  · rw [fl_get hi, List.getElem?_set, fl_len]
    by_cases e : j = i
    · subst e
      rw [if_pos rfl, if_pos h, if_pos rfl]
    · rw [if_neg e, fl_get hi, if_neg (fun z => e z.symm)]
  · rw [List.getElem?_eq_none (by rw [List.length_set, fl_len]; omega), List.getElem?_eq_none (by rw [fl_len]; omega)]
theorem fl_rep (n : Nat) (v : Int) : (List.replicate n [V.int v]).flatten = fl n (fun _ => v) := by
  refine List.ext_getElem? fun i => ?_
  have e : (List.replicate n [V.int v]).flatten = List.replicate n (V.int v) := by
    induction n with
    | zero => rfl
    | succ n ih => rw [List.replicate_succ, List.flatten_cons, ih]; rfl
  rw [e]
  by_cases hi : i < n
  · rw [fl_get hi, List.getElem?_replicate, if_pos hi]
  · rw [List.getElem?_eq_none (by rw [List.length_replicate]; omega), List.getElem?_eq_none (by rw [fl_len]; omega)]
theorem fl_snoc (n : Nat) (f : Nat → Int) : fl n f ++ [.int (f n)] = fl (n + 1) f := by
  unfold fl
  rw [List.range_succ, List.map_append]
  rfl
theorem fl_cons (n : Nat) (f : Nat → Int) : V.int (f 0) :: fl n (fun i => f (i + 1)) = fl (n + 1) f := by
  unfold fl
  rw [List.range_succ_eq_map, List.map_cons, List.map_map]
  rfl
theorem ixN_nat {n j : Nat} (h : j < n) : ixN n (j : Int) = some j := by
  unfold ixN
  rw [if_pos (by omega), if_pos (by omega)]
  simp
theorem ixN_nat' {n j : Nat} {i : Int} (h : j < n) (e : i = (j : Int)) : ixN n i = some j := by
  subst e
  exact ixN_nat h
theorem take_more {α : Type} : ∀ {l : List α} {i : Nat} {x : α}, l[i]? = some x → l.take (i + 1) = l.take i ++ [x]
  | [], i, x, h => by simp at h
  | a :: l, 0, x, h => by
    have e : a = x := Option.some.inj h
    subst e
    rfl
  | a :: l, i + 1, x, h => by
    have ih := take_more (l := l) (i := i) (x := x) h
    show a :: l.take (i + 1) = a :: l.take i ++ [x]
    rw [ih]
    rfl
theorem Same.list {H H' : Hp} {a : Addr} {xs : List V} (s : Same H H') (h : H a = some (.lst xs)) : H' a = some (.lst xs) := s _ _ h

/-! ### fields -/
theorem lk_hit (f : Str) (v : V) (fs : List (Str × V)) : (putF f v fs).lookup f = some v := by rw [lookup_putF, if_pos rfl]
theorem lk_miss {f g : Str} (h : ¬ f = g) {v : V} {fs : List (Str × V)} {o : Option V} (q : fs.lookup g = o) : (putF f v fs).lookup g = o := by rw [lookup_putF, if_neg (fun z => h z.symm)]; exact q
theorem putF_len (f : Str) (v : V) : ∀ fs : List (Str × V), (putF f v fs).length ≤ fs.length + 1
  | [] => Nat.le_refl _
  | (g, x) :: r => by
    unfold putF
    split
    · exact Nat.le_succ _
    · exact Nat.succ_le_succ (putF_len f v r)
theorem putF_lt {f : Str} {v : V} {fs : List (Str × V)} {n : Nat} (h : fs.length < n) : (putF f v fs).length < n + 1 := Nat.lt_of_le_of_lt (putF_len f v fs) (Nat.succ_lt_succ h)

/-! ### the same rules with the written part named (for what stands in a comprehension) -/
section
variable {X : Cx}
theorem ixl (K : PySem.W.Frag) (h : X.K = K := by rfl) : IxR X (rIxL K) := by
  subst h
  exact ix_list
theorem ixt (K : PySem.W.Frag) (h : X.K = K := by rfl) : IxR X (rIxT K) := by
  subst h
  exact ix_tup
theorem lenK (K : PySem.W.Frag) (h : X.K = K := by rfl) : CallR X (.builtin "len") (fun xs H Q => ∃ p ys, xs = [.ref p] ∧ (SqL K H p ys ∨ SqT K H p ys) ∧ Q (.int ys.length) H) := by
  subst h
  exact call_len_seq
theorem isiK (K : PySem.W.Frag) (h : X.K = K := by rfl) : CallR X (.builtin "isinstance") (rIsi K) := by
  subst h
  exact call_isi
theorem sllK (K : PySem.W.Frag) (h : X.K = K := by rfl) : SlR X (rSlL K) := by
  subst h
  exact sl_list
theorem pe_fldK (K : PySem.W.Frag) {e : Expr} {f : Str} {pos : Pos} {ta : TE} (he : PE X e ta) (hb : attributeBase e f X.env (eval e X.env) = eval e X.env) (h : X.K = K := by rfl) : PE X (.Attribute e f pos) (tFld K ta f) := by
  subst h
  exact pe_fld he hb
end
end HX

/-! ### sorted(d.items()), d a dict with whole numbers as keys and objects as values -/
namespace HS
open PySem PySem.Spec PyProof.Rows L2
section
variable {X : Cx}
/-- d.items() -/
def rItemsK : V → List V → Hp → VK → Prop := fun x xs H Q => ∃ (a : Addr) (kvs : List (L2.Key × V)), x = .ref a ∧ xs = [] ∧ H a = some (.dK kvs) ∧ ∀ p, H p = none → Q (.ref p) (upd H p (DX.itemsO p a))
theorem mt_itemsK : MtR X "dict.items" rItemsK := by
  intro pins s σ H x xs v us Q I rx rxs h
  obtain ⟨a, kvs, rfl, rfl, ha, q⟩ := h
  cases rx
  cases rxs
  obtain ⟨z, hd, vs, rel, o, es, ep, ho, hx, hdat, _⟩ := dk_of I.hok ha
  refine DT.callItems (es := es) (ep := ep) hd ⟨o, ho, hx, hdat⟩ ?_
  have hf : H s.heap.objs.size = none := I.hok.fresh (Nat.le_refl _)
  exact ⟨.ref s.heap.objs.size, upd H s.heap.objs.size (DX.itemsO s.heap.objs.size a), I.laid (t' := s.toks) (fun b u e => Heap.get?_push_of_some _ e) (Nat.le_refl _) (DX.itemsO_ok (Heap.get?_push_size _ rfl)), rfl, q _ hf⟩
abbrev entK (e : Int × Addr) : L2.Key × V := (Sum.inl e.1, V.ref e.2)
def rSortItK : List V → Hp → VK → Prop := fun vs H Q => ∃ (p a : Addr) (ks : List (Int × Addr)), vs = [.ref p] ∧ H p = some (DX.itemsO p a) ∧ H a = some (.dK (ks.map entK)) ∧
  ∀ (H' : Hp) (l : Addr) (ps : List (Addr × Int × Addr)), (∀ b o, H b = some o → H' b = some o) → H l = none → (ps.map (·.2)).Perm ks → (ps.map (·.2)).Pairwise (fun e f => e.1 < f.1) → H' l = some (.lst (ps.map fun z => V.ref z.1)) →
    (∀ z ∈ ps, H' z.1 = some (.tup [.int z.2.1, .ref z.2.2])) → Q (.ref l) H'
/-- the first item, a whole number, of the tuple that the value stands for -/
def kfI (h : Heap) (v : Value) : Int := match v with
  | .ref b => (match h.get? b with
    | some o => (match o.data with
      | .seq xs _ => (match (xs[0]? : Option Value) with
        | some (Value.int i _) => i
        | _ => 0)
      | _ => 0)
    | _ => 0)
  | _ => 0
theorem kfI_of {h : Heap} {b : Addr} {o : Obj} {i : Int} {t : Tok} {v : Value} {n : Nat} (ho : h.get? b = some o) (hd : o.data = .seq #[.int i t, v] n) : kfI h (.ref b) = i := by
  unfold kfI
  simp only [ho, hd]
  rfl
theorem swo_int (k : Value → Int) : SrtO.Swo fun v u => decide (k v < k u) := by
  refine ⟨fun x y h => ?_, fun x y z h1 h2 => ?_⟩
  · have a := of_decide_eq_true h
    exact decide_eq_false (by omega)
  · have a := of_decide_eq_false h1
    have b := of_decide_eq_false h2
    exact decide_eq_false (by omega)
/-- a pair with a whole number first -/
def IsEnt (h : Heap) (v : Value) (i : Int) : Prop := ∃ (a : Addr) (o : Obj) (t : Tok) (u : Value) (n : Nat), v = .ref a ∧ h.get? a = some o ∧ o.cls = .type "tuple" ∧ o.data = .seq #[.int i t, u] n
theorem firstsE {h : Heap} {k : Value → Int} : ∀ vs : List Value, (∀ v ∈ vs, IsEnt h v (k v)) → ∃ fs : List Value, PySem.W.KatTups h vs fs ∧ fs.length = vs.length ∧ ∀ f ∈ fs, ∃ x t, f = Value.int x t
  | [], _ => ⟨[], PySem.W.KatTups.nil, rfl, fun f hf => nomatch hf⟩
  | v :: vs, x => by
    obtain ⟨fs, k1, hl, hi⟩ := firstsE (h := h) (k := k) vs fun u hu => x u (List.mem_cons_of_mem _ hu)
    obtain ⟨a, o, t, u, n, e, ho, hc, hd⟩ := x v (List.mem_cons_self ..)
    subst e
    refine ⟨.int (k (.ref a)) t :: fs, PySem.W.KatTups.cons ho hc hd rfl k1, congrArg Nat.succ hl, fun f hf => ?_⟩
    rcases List.mem_cons.mp hf with rfl | hf
    · exact ⟨_, _, rfl⟩
    · exact hi f hf
section
variable {prog : Program} {w : World} {A : Around} {s : Shared}
theorem ent_cmp {vs : List Value} {k : Value → Int} (hp : ∀ v ∈ vs, IsEnt s.heap v (k v)) (inj : ∀ v ∈ vs, ∀ u ∈ vs, k v = k u → v = u) : SrtO.Cmp prog w A s (tuples' true) (fun p => p.1 ∈ vs) (SrtO.lt2 fun v u => decide (k v < k u)) := by
  intro p q hm hm'
  have h1 := hp _ hm
  have h2 := hp _ hm'
  have hi := inj _ hm _ hm'
  show wpAny (model prog w) A (keyLt' (tuples' true) p.1 q.1) (fun r s' => s' = s ∧ r = decide (k p.1 < k q.1)) (fun _ _ => False) s
  generalize k p.1 = x at h1 hi ⊢
  generalize k q.1 = x' at h2 hi ⊢
  obtain ⟨a, o, t, u, n, e, ho, hc, hd⟩ := h1
  obtain ⟨a', o', t', u', n', e', ho', hc', hd'⟩ := h2
  rw [e, e']
  refine PySem.W.kat_lt ho hd ho' hd' ?_
  show PySem.W.KatLex prog w A true (decide (2 < 2)) _ [(.int x t, .int x' t'), (u, u')] 0 s
  refine PySem.W.kat_cons (SeqAt.EqAt.int_int x t x' t' prog w _ _ ?_)
  refine PySem.W.kat_go (fun e1 => ?_) (fun e1 => ?_)
  · have ex : x = x' := by simpa using e1
    have ev := hi ex
    rw [e, e'] at ev
    cases ev
    have eo : o = o' := Option.some.inj (ho.symm.trans ho')
    subst eo
    rw [hd] at hd'
    have eu : u = u' := by
      injection hd' with h1 h2
      have z := congrArg (fun (a : Array Value) => a[1]?) h1
      simpa using z
    subst eu
    refine PySem.W.kat_yes (PySem.W.kat_cons (SeqAt.EqAt.same u prog w _ _ ?_))
    refine PySem.W.kat_yes (PySem.W.kat_nil ⟨rfl, ?_⟩)
    rw [ex]
    exact (decide_eq_false (Int.lt_irrefl _)).symm
  · exact PySem.W.kat_no (oneLt_int ⟨rfl, rfl⟩)
theorem ents_sortable {a : Addr} {vs : List Value} {k : Value → Int} (h0 : 0 < vs.length) (hp : ∀ v ∈ vs, IsEnt s.heap v (k v)) (inj : ∀ v ∈ vs, ∀ u ∈ vs, k v = k u → v = u) (ha : ∀ o, s.heap.get? a = some o → o.cls ≠ .type "tuple") :
    SrtO.SortableO prog w A s a vs fun v u => decide (k v < k u) := by
  intro h' keep
  have hp' : ∀ v ∈ vs, IsEnt h' v (k v) := fun v hm => by
    obtain ⟨b, o, t, u, n, e, ho, hc, hd⟩ := hp v hm
    exact ⟨b, o, t, u, n, e, keep b o (fun z => by subst z; exact ha o ho hc) ho, hc, hd⟩
  obtain ⟨fs, h1, h2, h3⟩ := firstsE (h := h') (k := k) vs hp'
  refine ⟨tuples' true, fun Q E hq => ?_, ent_cmp hp' inj⟩
  refine PySem.W.kat_kind (T := .type "int") h1 (by omega) (fun f hm => ?_) (by rfl) ?_
  · obtain ⟨x, t, rfl⟩ := h3 f hm
    exact PySem.W.Looks.now
  · have e : (Value.type "int" != Value.type "tuple") = true := by first | decide +kernel | rfl | decide
    rw [e]
    exact hq
end
theorem pairs_at {P : Program} {w : World} : ∀ {es : List DictEntry} {vs : List (L2.Key × Value)}, Pairs (mixKind P w) es vs → ∀ (j : Nat) (e : DictEntry), es[j]? = some e → ∃ kv, vs[j]? = some kv ∧ keyIs kv.1 e.key = true ∧ e.val = kv.2
  | _, _, .nil, j, e, h => by simp at h
  | _, _, .cons h1 h2 r, 0, e, h => by
    cases h
    exact ⟨_, rfl, h1, h2⟩
  | _, _, .cons h1 h2 r, j + 1, e, h => pairs_at r j e h
theorem kv_at : ∀ {ks : List (Int × Addr)} {vs : List (L2.Key × Value)}, KV (ks.map entK) vs → ∀ (j : Nat) (kv : L2.Key × Value), vs[j]? = some kv → ∃ e, ks[j]? = some e ∧ kv = (Sum.inl e.1, Value.ref e.2)
  | [], _, h, j, kv, q => by
    cases h
    simp at q
  | e :: ks, _, h, j, kv, q => by
    cases h with
    | cons r rs =>
      cases j with
      | zero =>
        have q' := Option.some.inj q
        obtain ⟨r1, r2⟩ := r
        refine ⟨e, rfl, ?_⟩
        rw [← q']
        exact Prod.ext r1.symm r2
      | succ j => exact kv_at (ks := ks) rs j kv q
theorem cr_sortedItK (hc : X.calm = true) : CallR X (.builtin "sorted") rSortItK := by
  intro pins s σ H xs us Q I r h
  obtain ⟨p, a, ks, rfl, hp, ha, q⟩ := h
  obtain rfl := Vals.ref1 r
  have view : s.heap.IsItemsView p a := (show ObjOk X.prog X.w H s.heap p (DX.itemsO p a) from I.hok p _ hp).1
  obtain ⟨z, hd, vs', rel, o, es, ep, ho, hx, hdat, hko, hpairs, hnd⟩ := dk_of I.hok ha
  have l1 : (ks.map entK).length = vs'.length := Paired.length rel
  rw [List.length_map] at l1
  have l2 : es.size = vs'.length := by
    rw [← Pairs.length hpairs, Array.length_toList]
  rw [List.length_map] at z
  have hh : X.A.handled = none := I.ok.hd hc
  refine DT.sortedI (es := es) (ep := ep) hh view ⟨o, ho, hx, hdat⟩ (by omega) fun h' tk as hk hlt hl hG => ?_
  have lak : as.length = ks.length := by omega
  have nd : as.Nodup := List.Pairwise.imp (fun h => Nat.ne_of_lt h) hG.rise
  have pr : ∀ (j : Nat) (b : Addr), as[j]? = some b → ∃ (e : Int × Addr) (t : Tok), ks[j]? = some e ∧ h'.get? b = some { cls := .type "tuple", data := .seq #[Value.int e.1 t, Value.ref e.2] } := by
    intro j b hj
    obtain ⟨en, he, hg⟩ := hG.pairs j b hj
    obtain ⟨kv, h1, h2, h3⟩ := pairs_at hpairs j en (by rw [Array.getElem?_toList]; exact he)
    obtain ⟨e, h4, rfl⟩ := kv_at rel j kv h1
    rcases keyIs_shape h2 with ⟨i, t, e1, e2⟩ | ⟨i, t, e1, e2⟩
    · cases e1
      rw [e2, h3] at hg
      exact ⟨e, t, h4, hg⟩
    · cases e1
  have knd : (ks.map (·.1)).Nodup := by
    have e : vs'.map (·.1) = ks.map fun e => (Sum.inl e.1 : L2.Key) := by
      refine List.ext_getElem? fun j => ?_
      rw [List.getElem?_map, List.getElem?_map]
      cases hv : vs'[j]? with
      | none =>
        have : ks[j]? = none := List.getElem?_eq_none (by rw [l1]; exact List.getElem?_eq_none_iff.mp hv)
        rw [this]
        rfl
      | some kv =>
        obtain ⟨e, h4, rfl⟩ := kv_at rel j kv hv
        rw [h4]
        rfl
    rw [e] at hnd
    exact List.pairwise_map.mpr (List.Pairwise.imp (fun {x y} h z => h (congrArg Sum.inl z)) (List.pairwise_map.mp hnd))
  have hob : (h'.push { cls := .type "list", data := .seq (as.map Value.ref).toArray }).get? h'.objs.size = some (seqObj "list" (as.map Value.ref).toArray 0) := Heap.get?_push_size _ rfl
  have kb : ∀ b o, s.heap.get? b = some o → (h'.push { cls := .type "list", data := .seq (as.map Value.ref).toArray }).get? b = some o := fun b o e => Heap.get?_push_of_some _ (hk b o e)
  have ne0 : ∀ b o, h'.get? b = some o → b ≠ h'.objs.size := fun b o e => Nat.ne_of_lt (Heap.lt_size e)
  generalize hh2 : h'.push { cls := .type "list", data := .seq (as.map Value.ref).toArray } = h2 at hob kb ⊢
  have ka : ∀ b o, h'.get? b = some o → h2.get? b = some o := fun b o e => by rw [← hh2]; exact Heap.get?_push_of_some _ e
  have at_ : ∀ v ∈ as.map Value.ref, ∃ (j : Nat) (b : Addr) (e : Int × Addr) (t : Tok), v = .ref b ∧ as[j]? = some b ∧ ks[j]? = some e ∧ h'.get? b = some { cls := .type "tuple", data := .seq #[Value.int e.1 t, Value.ref e.2] } := by
    intro v hv'
    obtain ⟨b, hb, rfl⟩ := List.mem_map.mp hv'
    obtain ⟨j, hj⟩ := List.mem_iff_getElem?.mp hb
    obtain ⟨e, t, he, hg⟩ := pr j b hj
    exact ⟨j, b, e, t, rfl, hj, he, hg⟩
  have kf : ∀ (b : Addr) (e : Int × Addr) (t : Tok), h'.get? b = some { cls := .type "tuple", data := .seq #[Value.int e.1 t, Value.ref e.2] } → kfI h' (.ref b) = e.1 := fun b e t hg => kfI_of hg rfl
  have ent : ∀ v ∈ as.map Value.ref, IsEnt h2 v (kfI h' v) := by
    intro v hv
    obtain ⟨j, b, e, t, rfl, _, _, hg⟩ := at_ v hv
    exact ⟨b, _, t, .ref e.2, 0, rfl, ka _ _ hg, rfl, by rw [kf b e t hg]⟩
  have inj : ∀ v ∈ as.map Value.ref, ∀ u ∈ as.map Value.ref, kfI h' v = kfI h' u → v = u := by
    intro v hv u hu hvu
    obtain ⟨j, b, e, t, rfl, j1, j2, hg⟩ := at_ v hv
    obtain ⟨i, c, f, t', rfl, i1, i2, hg'⟩ := at_ u hu
    rw [kf b e t hg, kf c f t' hg'] at hvu
    have ej : (ks.map (·.1))[j]? = some e.1 := by rw [List.getElem?_map, j2]; rfl
    have ei : (ks.map (·.1))[i]? = some e.1 := by rw [List.getElem?_map, i2, hvu]; rfl
    have eij : j = i := (List.getElem?_inj (List.getElem?_eq_some_iff.mp ej).1 knd).mp (ej.trans ei.symm)
    subst eij
    rw [i1] at j1
    cases j1
    rfl
  refine wpAny_call_entry PyProof.Rows.slot_list_sort ⟨_, hob, rfl⟩ PyProof.Rows.entry_list_sort
    (SrtO.list_sort_ord (s := { s with heap := h2, toks := tk }) (swo_int (kfI h')) hob (by rw [List.length_map]; omega) (fun h2' => ents_sortable (s := { s with heap := h2, toks := tk }) (by omega) ent inj fun o e => ?_) fun out o1 o2 => ⟨.none, rfl, ?_⟩) (PyProof.Rows.args_list_sort _)
  · have e' : some o = some (seqObj "list" (as.map Value.ref).toArray 0) := e.symm.trans hob
    cases e'
    intro c
    exact absurd (Value.type.inj c) (by decide)
  · show EP X pins σ Q (.ref h'.objs.size) { s with heap := sortedHeap h2 h'.objs.size (as.map Value.ref) out.toArray, toks := tk }
    obtain ⟨zs, pz, ez⟩ := perm_lift (fun z : Addr × Int × Addr => Value.ref z.1) o2.perm (as.zip ks) (by
      rw [show (fun z : Addr × Int × Addr => Value.ref z.1) = Value.ref ∘ Prod.fst from rfl, ← List.map_map, List.map_fst_zip (by omega)])
    have idx : ∀ z ∈ zs, ∃ j : Nat, as[j]? = some z.1 ∧ ks[j]? = some z.2 := by
      intro z' hz'
      obtain ⟨j, hj⟩ := List.mem_iff_getElem?.mp (pz.mem_iff.mp hz')
      exact ⟨j, List.getElem?_zip_eq_some.mp hj⟩
    have hperm : (zs.map (·.2)).Perm ks := by
      have e := pz.map (·.2)
      have m2 : (as.zip ks).map (·.2) = ks := List.map_snd_zip (by rw [lak]; exact Nat.le_refl _)
      rw [m2] at e
      exact e
    have kz : ∀ z ∈ zs, kfI h' (.ref z.1) = z.2.1 := fun z hz => by
      obtain ⟨j, j1, j2⟩ := idx z hz
      obtain ⟨e, t, he, hg⟩ := pr j _ j1
      rw [kf _ e t hg]
      rw [he] at j2
      cases j2
      rfl
    have hsort : (zs.map (·.2)).Pairwise (fun e f => e.1 < f.1) := by
      have le : (zs.map (·.2)).Pairwise (fun e f => e.1 ≤ f.1) := by
        have o1' : out.Pairwise (fun v u => decide (kfI h' u < kfI h' v) = false) := o1
        rw [← ez, List.pairwise_map] at o1'
        rw [List.pairwise_map]
        refine List.Pairwise.imp_of_mem (fun {x y} hx hy h => ?_) o1'
        have h2 := of_decide_eq_false h
        rw [kz x hx, kz y hy] at h2
        omega
      have ne : (zs.map (·.2)).Pairwise (fun e f => e.1 ≠ f.1) := by
        have n1 : ((zs.map (·.2)).map (·.1)).Nodup := (hperm.map (·.1)).nodup_iff.mpr knd
        exact List.pairwise_map.mp n1
      exact List.Pairwise.imp (fun {x y} h => by have := h.1; have := h.2; omega) (List.Pairwise.and le ne)
    have kF : ∀ b o, b ≠ h'.objs.size → h2.get? b = some o → (sortedHeap h2 h'.objs.size (as.map Value.ref) out.toArray).get? b = some o := fun b o hb e => (PyProof.Rows.sortedHeap_old hb (Heap.lt_size e)).trans e
    have kS : ∀ b o, s.heap.get? b = some o → (sortedHeap h2 h'.objs.size (as.map Value.ref) out.toArray).get? b = some o := fun b o e => kF b o (ne0 _ _ (hk b o e)) (kb b o e)
    obtain ⟨eF, heF⟩ := PyProof.Rows.sortedHeap_at (vs := as.map Value.ref) (out := out.toArray) hob
    have I1 : Inv X pins σ H { s with heap := sortedHeap h2 h'.objs.size (as.map Value.ref) out.toArray, toks := tk } := I.kept (t' := tk) kS
    have hn0 : H h'.objs.size = none := I.hok.fresh (Nat.le_of_lt hlt)
    have hlen : (zs.map fun z => V.ref z.1).length ≤ sizeLine := by
      have e := hperm.length_eq
      rw [List.length_map] at e
      rw [List.length_map]
      omega
    have rv : Vals (zs.map fun z => V.ref z.1) out := by
      rw [← ez]
      exact vals_maps (fun z : Addr × Int × Addr => V.ref z.1) (fun z => Value.ref z.1) zs fun _ _ => rfl
    have I2 : Inv X pins σ (upd H h'.objs.size (.lst (zs.map fun z => V.ref z.1))) { s with heap := sortedHeap h2 h'.objs.size (as.map Value.ref) out.toArray, toks := tk } :=
      I1.take (h' := sortedHeap h2 h'.objs.size (as.map Value.ref) out.toArray) (t' := tk) (fun b ob _ e => e) (I.fpOk (Nat.le_of_lt hlt) hn0) ⟨hlen, out, eF, rv, heF⟩
    obtain ⟨H2, I3, g, qt⟩ := DX.takeT (P := fun b vs => ∃ (j : Nat) (e : Int × Addr), as[j]? = some b ∧ ks[j]? = some e ∧ vs = [.int e.1, .ref e.2]) I as _ I2 nd fun b hb => by
      obtain ⟨j, hj⟩ := List.mem_iff_getElem?.mp hb
      obtain ⟨e, t, he, hg⟩ := pr j b hj
      have hbl : s.heap.objs.size ≤ b := Nat.le_of_lt (hG.above b hb)
      refine ⟨hbl, ?_, [.int e.1, .ref e.2], ⟨j, e, hj, he, rfl⟩, fun H3 => ⟨(by rw [sizeLine_eq]; show 2 ≤ 16777216; omega), [Value.int e.1 t, Value.ref e.2], .cons ⟨t, rfl⟩ (.cons rfl .nil), ⟨_, kF _ _ (ne0 _ _ hg) (ka _ _ hg), rfl, 0, rfl⟩⟩⟩
      rw [upd_ne (ne0 _ _ hg)]
      exact I.hok.fresh hbl
    have gr : ∀ b o, H b = some o → H2 b = some o := fun b o e => g b o (by rw [upd_ne (ne_of_none e hn0)]; exact e)
    refine ⟨.ref h'.objs.size, H2, I3, rfl, q H2 h'.objs.size zs gr hn0 hperm hsort (g _ _ upd_same) fun z' hz' => ?_⟩
    obtain ⟨i, i1, i2⟩ := idx z' hz'
    obtain ⟨vs, ⟨j, e, j1, j2, ev⟩, hH⟩ := qt z'.1 (List.mem_of_getElem? i1)
    have eij : i = j := (List.getElem?_inj (List.getElem?_eq_some_iff.mp i1).1 nd).mp (i1.trans j1.symm)
    subst eij
    have ee : e = z'.2 := Option.some.inj (j2.symm.trans i2)
    rw [ev, ee] at hH
    exact hH
end
end HS

/-! ### shapes, trees: plain mathematics, and what stands for them in a heap -/
namespace TR
open PySem PySem.Spec PyProof.Rows L2 HX
def Sh : Nat → Type
  | 0 => Nat
  | l + 1 => List (Sh l)
def Sh.n (s : Sh 0) : Nat := s
def Sh.ks {l : Nat} (s : Sh (l + 1)) : List (Sh l) := s
def cntS : (l : Nat) → Sh l → Nat
  | 0, n => n
  | l + 1, ks => (ks.ks.map (cntS l)).sum
def pgsS : (l : Nat) → Sh l → Nat
  | 0, _ => 1
  | l + 1, ks => 1 + (ks.ks.map (pgsS l)).sum
def loS (room l : Nat) (top : Bool) : Nat := if top = true then (if l = 0 then 0 else 2) else (room + 1) / 2
def WfSh (room : Nat) : (l : Nat) → Bool → Sh l → Prop
  | 0, top, n => loS room 0 top ≤ n.n ∧ n.n ≤ room
  | l + 1, top, ks => loS room (l + 1) top ≤ ks.ks.length ∧ ks.ks.length ≤ room ∧ ∀ k ∈ ks.ks, WfSh room l false k
/-- how many pages at most -/
def cS (room : Nat) : Nat → Nat
  | 0 => 1
  | l + 1 => 1 + room * cS room l
theorem sum_le {α : Type} {f : α → Nat} {c : Nat} : ∀ {xs : List α}, (∀ x ∈ xs, f x ≤ c) → (xs.map f).sum ≤ xs.length * c
  | [], _ => Nat.zero_le _
  | x :: xs, h => by
    have a := h x (List.mem_cons_self ..)
    have b := sum_le (f := f) (c := c) (xs := xs) fun y hy => h y (List.mem_cons_of_mem _ hy)
    rw [List.map_cons, List.sum_cons, List.length_cons, Nat.succ_mul]
    omega
theorem pgs_le {room : Nat} : ∀ {l : Nat} {top : Bool} {s : Sh l}, WfSh room l top s → pgsS l s ≤ cS room l
  | 0, _, _, _ => Nat.le_refl 1
  | l + 1, _, s, h => by
    obtain ⟨_, h2, h3⟩ := h
    have a := sum_le (f := pgsS l) (c := cS room l) (xs := s.ks) fun k hk => pgs_le (h3 k hk)
    have b : s.ks.length * cS room l ≤ room * cS room l := Nat.mul_le_mul_right _ h2
    show 1 + (s.ks.map (pgsS l)).sum ≤ 1 + room * cS room l
    omega
theorem cnt_le {room : Nat} : ∀ {l : Nat} {top : Bool} {s : Sh l}, WfSh room l top s → cntS l s ≤ room * cS room l
  | 0, _, s, h => by
    have := h.2
    show s.n ≤ room * 1
    omega
  | l + 1, _, s, h => by
    obtain ⟨_, h2, h3⟩ := h
    have a := sum_le (f := cntS l) (c := room * cS room l) (xs := s.ks) fun k hk => cnt_le (h3 k hk)
    have b : s.ks.length * (room * cS room l) ≤ room * (room * cS room l) := Nat.mul_le_mul_right _ h2
    show (s.ks.map (cntS l)).sum ≤ room * (1 + room * cS room l)
    rw [Nat.mul_add]
    omega
/-! ### in the heap -/
/-- tuples never change -/
def tpb : HO → Bool
  | .tup _ => true
  | .frz _ (.tup _) => true
  | _ => false
structure Keep (H H' : Hp) : Prop where
  all : ∀ b u, tpb u = true → H b = some u → H' b = some u
instance {H H' : Hp} : CoeFun (Keep H H') (fun _ => ∀ b xs, H b = some (.tup xs) → H' b = some (.tup xs)) := ⟨fun k b _ h => k.all b _ rfl h⟩
theorem Keep.frz {H H' : Hp} (k : Keep H H') {b : Addr} {o : Obj} {xs : List V} (h : H b = some (.frz o (.tup xs))) : H' b = some (.frz o (.tup xs)) := k.all b _ rfl h
theorem Keep.refl (H : Hp) : Keep H H := ⟨fun _ _ _ h => h⟩
theorem Keep.trans {H H1 H2 : Hp} (a : Keep H H1) (b : Keep H1 H2) : Keep H H2 := ⟨fun c u t h => b.all c u t (a.all c u t h)⟩
theorem Keep.of {H H' : Hp} (s : Same H H') : Keep H H' := ⟨fun b u _ h => s b _ h⟩
theorem tpb_no {H : Hp} {p : Addr} (h : ∀ u, H p = some u → tpb u = false) {b : Addr} {u : HO} (t : tpb u = true) (e : H b = some u) : b ≠ p := fun z => by
  subst z
  rw [h u e] at t
  cases t
theorem Keep.but {H H' : Hp} {p : Addr} (s : But p H H') (h : ∀ u, H p = some u → tpb u = false) : Keep H H' := ⟨fun b u t e => s b _ (tpb_no h t e) e⟩
theorem Keep.upd {H H' : Hp} {p : Addr} {o : HO} (s : Keep H H') (h : ∀ u, H' p = some u → tpb u = false) : Keep H (upd H' p o) := ⟨fun b u t e => by
  have z := s.all b u t e
  rw [upd_ne (tpb_no h t z)]
  exact z⟩
def ShAt (H : Hp) : (l : Nat) → V → Sh l → Prop
  | 0, v, n => v = .int (n.n : Int)
  | l + 1, v, ks => ∃ (a : Addr) (xs : List V), v = .ref a ∧ H a = some (.tup xs) ∧ Paired (ShAt H l) xs ks.ks
theorem paired_imp {α β : Type} {R R' : α → β → Prop} (h : ∀ x y, R x y → R' x y) : ∀ {xs : List α} {ys : List β}, Paired R xs ys → Paired R' xs ys
  | _, _, .nil => .nil
  | _, _, .cons r rs => .cons (h _ _ r) (paired_imp h rs)
theorem paired_snoc {α β : Type} {R : α → β → Prop} {x : α} {y : β} (h : R x y) : ∀ {xs : List α} {ys : List β}, Paired R xs ys → Paired R (xs ++ [x]) (ys ++ [y])
  | _, _, .nil => .cons h .nil
  | _, _, .cons r rs => .cons r (paired_snoc h rs)
theorem pget1 {α β : Type} {R : α → β → Prop} : ∀ {xs : List α} {ys : List β}, Paired R xs ys → ∀ {i : Nat} {x : α}, xs[i]? = some x → ∃ y, ys[i]? = some y ∧ R x y
  | _, _, .nil, i, x, h => by simp at h
  | _, _, .cons r rs, 0, x, h => by
    cases h
    exact ⟨_, rfl, r⟩
  | _, _, .cons r rs, i + 1, x, h => pget1 rs (i := i) h
theorem pget2 {α β : Type} {R : α → β → Prop} : ∀ {xs : List α} {ys : List β}, Paired R xs ys → ∀ {i : Nat} {y : β}, ys[i]? = some y → ∃ x, xs[i]? = some x ∧ R x y
  | _, _, .nil, i, x, h => by simp at h
  | _, _, .cons r rs, 0, x, h => by
    cases h
    exact ⟨_, rfl, r⟩
  | _, _, .cons r rs, i + 1, x, h => pget2 rs (i := i) h
theorem ShAt.keep {H H' : Hp} (k : Keep H H') : ∀ {l : Nat} {v : V} {s : Sh l}, ShAt H l v s → ShAt H' l v s
  | 0, _, _, h => h
  | l + 1, _, _, h => by
    obtain ⟨a, xs, rfl, h1, h2⟩ := h
    exact ⟨a, xs, rfl, k _ _ h1, paired_imp (fun _ _ r => ShAt.keep k r) h2⟩
/-- a pair of whole numbers -/
def PrAt (H : Hp) (x : V) (p : Int × Int) : Prop := ∃ t : Addr, x = .ref t ∧ H t = some (.tup [.int p.1, .int p.2])
theorem PrAt.keep {H H' : Hp} (k : Keep H H') {x : V} {p : Int × Int} (h : PrAt H x p) : PrAt H' x p := by
  obtain ⟨t, e, h1⟩ := h
  exact ⟨t, e, k _ _ h1⟩
end TR

/-! ### trees of pages: plain mathematics -/
namespace TR
open PySem PySem.Spec PyProof.Rows L2 HX
inductive Pg where
  | leaf (ps : List (Int × Int)) (nx : Int)
  | node (ks kids : List Int)
def lkp (D : List (Int × Pg)) (k : Int) : Option Pg := (D.find? fun q => decide (q.1 = k)).map (·.2)
theorem lkp_none {D : List (Int × Pg)} {k : Int} (h : ∀ q ∈ D, q.1 ≠ k) : lkp D k = none := by
  unfold lkp
  rw [List.find?_eq_none.mpr (fun q hq => by simpa using h q hq)]
  rfl
theorem lkp_ne {D : List (Int × Pg)} {k : Int} (h : lkp D k = none) : ∀ q ∈ D, q.1 ≠ k := by
  unfold lkp at h
  intro q hq e
  have z : (D.find? fun q => decide (q.1 = k)) = none := by
    cases c : D.find? fun q => decide (q.1 = k) with
    | none => rfl
    | some x => rw [c] at h; cases h
  have := List.find?_eq_none.mp z q hq
  exact this (decide_eq_true e)
theorem lkp_keep {D D' : List (Int × Pg)} {k : Int} {x : Pg} (h : lkp D k = some x) : lkp (D ++ D') k = some x := by
  unfold lkp at h ⊢
  rw [List.find?_append]
  cases c : D.find? fun q => decide (q.1 = k) with
  | none => rw [c] at h; cases h
  | some y => rw [c] at h; exact h
theorem lkp_end {D : List (Int × Pg)} {k : Int} {x : Pg} (h : lkp D k = none) : lkp (D ++ [(k, x)]) k = some x := by
  unfold lkp at h ⊢
  rw [List.find?_append]
  cases c : D.find? fun q => decide (q.1 = k) with
  | none =>
    simp
  | some y => rw [c] at h; cases h
def Tr : Nat → Type
  | 0 => Int × List (Int × Int)
  | l + 1 => Int × List Int × List (Tr l)
def lfT (n : Int) (ps : List (Int × Int)) : Tr 0 := (n, ps)
def ndT {l : Nat} (n : Int) (ks : List Int) (kids : List (Tr l)) : Tr (l + 1) := (n, ks, kids)
def Tr.ps (t : Tr 0) : List (Int × Int) := Prod.snd t
def Tr.keys {l : Nat} (t : Tr (l + 1)) : List Int := Prod.fst (Prod.snd t)
def Tr.kids {l : Nat} (t : Tr (l + 1)) : List (Tr l) := Prod.snd (Prod.snd t)
def num : (l : Nat) → Tr l → Int
  | 0, t => Prod.fst t
  | _ + 1, t => Prod.fst t
def nums : (l : Nat) → Tr l → List Int
  | 0, t => [num 0 t]
  | l + 1, t => num (l + 1) t :: t.kids.flatMap (nums l)
def prs : (l : Nat) → Tr l → List (Int × Int)
  | 0, t => t.ps
  | l + 1, t => t.kids.flatMap (prs l)
def shp : (l : Nat) → Tr l → Sh l
  | 0, t => t.ps.length
  | l + 1, t => t.kids.map (shp l)
def Laid (D : List (Int × Pg)) : (l : Nat) → Tr l → Prop
  | 0, t => ∃ nx, lkp D (num 0 t) = some (.leaf t.ps nx)
  | l + 1, t => lkp D (num (l + 1) t) = some (.node t.keys (t.kids.map (num l))) ∧ ∀ k ∈ t.kids, Laid D l k
theorem Laid.more {D D' : List (Int × Pg)} : ∀ {l : Nat} {t : Tr l}, Laid D l t → Laid (D ++ D') l t
  | 0, _, ⟨nx, h⟩ => ⟨nx, lkp_keep h⟩
  | _ + 1, _, ⟨h, g⟩ => ⟨lkp_keep h, fun k hk => (g k hk).more⟩
/-- keys between kids -/
def KBs {α : Type} (R : α → Int → Int → Prop) : Int → List Int → List α → Int → Prop
  | lo, [], [k], hi => R k lo hi
  | lo, a :: ks, k :: kids, hi => R k lo a ∧ KBs R a ks kids hi
  | _, _, _, _ => False
theorem KBs.snoc {α : Type} {R : α → Int → Int → Prop} {a hi : Int} {x : α} (hx : R x a hi) : ∀ {kids : List α} {ks : List Int} {lo : Int}, KBs R lo ks kids a → KBs R lo (ks ++ [a]) (kids ++ [x]) hi
  | [], ks, _, h => by cases ks <;> exact h.elim
  | [k], [], _, h => ⟨h, hx⟩
  | _ :: _ :: _, [], _, h => h.elim
  | k :: kids, b :: ks, _, h => ⟨h.1, KBs.snoc hx h.2⟩
theorem KBs.len {α : Type} {R : α → Int → Int → Prop} {hi : Int} : ∀ {kids : List α} {ks : List Int} {lo : Int}, KBs R lo ks kids hi → ks.length + 1 = kids.length
  | [], ks, _, h => by cases ks <;> exact h.elim
  | [k], [], _, h => rfl
  | _ :: _ :: _, [], _, h => h.elim
  | k :: kids, b :: ks, _, h => by
    have := KBs.len h.2
    simp only [List.length_cons]
    omega
/-- the pairs lie from lo on, below hi; keys between -/
def KeyB : (l : Nat) → Tr l → Int → Int → Prop
  | 0, t, lo, hi => ∀ q ∈ t.ps, lo ≤ q.1 ∧ q.1 < hi
  | l + 1, t, lo, hi => KBs (KeyB l) lo t.keys t.kids hi
/-- keys of nodes as they have to be -/
def KeyOk : (l : Nat) → Tr l → Prop
  | 0, _ => True
  | l + 1, t => t.keys.Pairwise (· < ·) ∧ (∀ k ∈ t.keys, 0 ≤ k ∧ k ≤ 1000000000) ∧ t.keys.length + 1 = t.kids.length ∧ ∀ k ∈ t.kids, KeyOk l k
/-- first comes the greater one -/
def Above (ps : List (Int × Int)) (x : Int) : Prop := ∀ q ∈ ps, x < q.1
def Below (ps : List (Int × Int)) (x : Int) : Prop := ∀ q ∈ ps, q.1 ≤ x
def All (lo hi : Int) (ps : List (Int × Int)) : Prop := ∀ q ∈ ps, lo ≤ q.1 ∧ q.1 < hi
theorem take_add' {α : Type} (xs : List α) (a b : Nat) : xs.take (a + b) = xs.take a ++ (xs.drop a).take b := by
  rw [List.take_add]
theorem cnt_pos {room : Nat} (hr : 3 ≤ room) : ∀ {l : Nat} {s : Sh l}, WfSh room l false s → 0 < cntS l s
  | 0, s, h => by
    have := h.1
    have e : loS room 0 false = (room + 1) / 2 := rfl
    rw [e] at this
    show 0 < s.n
    omega
  | l + 1, s, h => by
    obtain ⟨h1, h2, h3⟩ := h
    have e : loS room (l + 1) false = (room + 1) / 2 := rfl
    rw [e] at h1
    show 0 < (s.ks.map (cntS l)).sum
    cases c : s.ks with
    | nil =>
      rw [c] at h1
      simp only [List.length_nil] at h1
      omega
    | cons k ks =>
      have := cnt_pos hr (h3 k (by rw [c]; exact List.mem_cons_self ..))
      rw [List.map_cons, List.sum_cons]
      omega
theorem sum_more {α : Type} (f : α → Nat) {xs : List α} {i : Nat} {x : α} (h : xs[i]? = some x) : ((xs.take (i + 1)).map f).sum = ((xs.take i).map f).sum + f x := by
  rw [take_more h, List.map_append, List.sum_append]
  simp
theorem sum_part {α : Type} (f : α → Nat) (xs : List α) (i : Nat) : ((xs.take i).map f).sum ≤ (xs.map f).sum := by
  conv => rhs; rw [← List.take_append_drop i xs]
  rw [List.map_append, List.sum_append]
  omega
theorem sum_part1 {α : Type} (f : α → Nat) {xs : List α} {i : Nat} {x : α} (h : xs[i]? = some x) : ((xs.take i).map f).sum + f x ≤ (xs.map f).sum := by
  rw [← sum_more f h]
  exact sum_part f xs (i + 1)
theorem paired_take {α β : Type} {R : α → β → Prop} : ∀ {xs : List α} {ys : List β} (n : Nat), Paired R xs ys → Paired R (xs.take n) (ys.take n)
  | _, _, 0, _ => by rw [List.take_zero, List.take_zero]; exact .nil
  | _, _, _ + 1, .nil => .nil
  | _, _, n + 1, .cons r rs => .cons r (paired_take n rs)
theorem paired_drop {α β : Type} {R : α → β → Prop} : ∀ {xs : List α} {ys : List β} (n : Nat), Paired R xs ys → Paired R (xs.drop n) (ys.drop n)
  | _, _, 0, h => h
  | _, _, _ + 1, .nil => .nil
  | _, _, n + 1, .cons r rs => paired_drop n rs
theorem last_pick (last : Int) (qs : List (Int × Int)) (hs : qs.Pairwise fun a b => a.1 < b.1) (ha : Above qs last) : ∃ z, atI ([V.int last] ++ qs.map (fun q => V.int q.1)) (-1) = some (.int z) ∧ Below qs z ∧ last ≤ z ∧ (z = last ∨ ∃ q ∈ qs, z = q.1) := by
  rcases List.eq_nil_or_concat qs with rfl | ⟨r, q, rfl⟩
  · exact ⟨last, rfl, (fun q hq => nomatch hq), Int.le_refl _, .inl rfl⟩
  · rw [List.concat_eq_append] at hs ha ⊢
    have hm : q ∈ r ++ [q] := List.mem_append_right _ (List.mem_singleton.mpr rfl)
    refine ⟨q.1, ?_, fun y hy => ?_, Int.le_of_lt (ha q hm), .inr ⟨q, hm, rfl⟩⟩
    · refine at_last (n := r.length + 1) (by simp) ?_
      rw [List.map_append, ← List.append_assoc, List.getElem?_append_right (by simp)]
      simp
    · rcases List.mem_append.mp hy with hy | hy
      · exact Int.le_of_lt ((List.pairwise_append.mp hs).2.2 y hy q (List.mem_singleton.mpr rfl))
      · obtain rfl := List.mem_singleton.mp hy
        exact Int.le_refl _
/-- what is laid when a shape is gone through -/
structure Gen (l : Nat) (s : Sh l) (t : Tr l) (ps : List (Int × Int)) (ns : List Int) (D D' : List (Int × Pg)) (last last' : Int) : Prop where
  shape : shp l t = s
  pairs : prs l t = ps.take (cntS l s)
  number : nums l t = ns.take (pgsS l s)
  keys : (D'.map (·.1)).Perm (nums l t)
  laid : Laid (D ++ D') l t
  keyB : ∀ lo hi, All lo hi (ps.take (cntS l s)) → KeyB l t lo hi
  keyOk : KeyOk l t
  below : Below (ps.take (cntS l s)) last'
  above : Above (ps.drop (cntS l s)) last'
  le : last ≤ last'
  le9 : last' ≤ 1000000000
theorem Gen.num_head {l : Nat} {s : Sh l} {t : Tr l} {ps : List (Int × Int)} {ns : List Int} {D D' : List (Int × Pg)} {last last' : Int} (_ : Gen l s t ps ns D D' last last') : ∃ r, nums l t = num l t :: r := by
  cases l with
  | zero => exact ⟨[], rfl⟩
  | succ l => exact ⟨_, rfl⟩
/-! ### lists of whole numbers as data -/
theorem dpa_ints {K : PySem.W.Frag} {H : Hp} : ∀ ns : List Int, DpAll K H (ns.map V.int) (ns.map PyData.int)
  | [] => .nil
  | n :: ns => .cons (.int n) (dpa_ints ns)
theorem lay_ints : ∀ ns : List Int, PyData.canLayAll0 (ns.map PyData.int) = true
  | [] => by simp only [List.map_nil, PyData.canLayAll0]
  | n :: ns => by simp only [List.map_cons, PyData.canLayAll0, PyData.canLay0, lay_ints ns, Bool.and_self]
theorem deep_ints : ∀ ns : List Int, PyData.depthAll (ns.map PyData.int) = 0
  | [] => by simp only [List.map_nil, PyData.depthAll]
  | n :: ns => by simp only [List.map_cons, PyData.depthAll, PyData.depth, deep_ints ns, Nat.max_self]
theorem shaped_ints (ns : List Int) : SeqAt.shaped (.list (ns.map PyData.int)) = true := by
  unfold SeqAt.shaped
  simp only [PyData.canLay0, lay_ints ns, PyData.depth, deep_ints ns]
  decide
theorem eqv_intsA : ∀ a b : List Int, PyData.eqvAll (a.map PyData.int) (b.map PyData.int) = decide (a = b)
  | [], [] => by simp only [List.map_nil, PyData.eqvAll]; rfl
  | [], _ :: _ => by simp only [List.map_nil, List.map_cons, PyData.eqvAll]; rfl
  | _ :: _, [] => by simp only [List.map_nil, List.map_cons, PyData.eqvAll]; rfl
  | x :: a, y :: b => by
    simp only [List.map_cons, PyData.eqvAll, PyData.eqv, eqv_intsA a b]
    by_cases e : x = y
    · subst e
      simp
    · simp [e]
theorem eqv_ints (a b : List Int) : PyData.eqv (.list (a.map PyData.int)) (.list (b.map PyData.int)) = decide (a = b) := by
  simp only [PyData.eqv, eqv_intsA]
/-- the first kids -/
structure Mid (l : Nat) (s : List (Sh l)) (i : Nat) (ts : List (Tr l)) (ks : List Int) (ps : List (Int × Int)) (ns : List Int) (D D' : List (Int × Pg)) (last last' : Int) : Prop where
  shapes : ts.map (shp l) = s.take i
  pairs : ts.flatMap (prs l) = ps.take ((s.take i).map (cntS l)).sum
  number : ts.flatMap (nums l) = ns.take ((s.take i).map (pgsS l)).sum
  perm : (D'.map (·.1)).Perm (ts.flatMap (nums l))
  laid : ∀ t ∈ ts, Laid (D ++ D') l t
  kb : ∀ lo hi, i ≠ 0 → All lo hi (ps.take ((s.take i).map (cntS l)).sum) → KBs (KeyB l) lo ks ts hi
  empty : i = 0 → ks = []
  rising : ks.Pairwise (· < ·)
  range : ∀ x ∈ ks, 0 ≤ x ∧ x ≤ last'
  keyOk : ∀ t ∈ ts, KeyOk l t
  below : Below (ps.take ((s.take i).map (cntS l)).sum) last'
  above : Above (ps.drop ((s.take i).map (cntS l)).sum) last'
  le : last ≤ last'
  last0 : -1 ≤ last
  le9 : last' ≤ 1000000000
  few : ks.length ≤ i
theorem Mid.zero {l : Nat} {s : List (Sh l)} {ps : List (Int × Int)} {ns : List Int} {D : List (Int × Pg)} {last : Int} (ha : Above ps last) (h0 : -1 ≤ last) (h9 : last ≤ 1000000000) : Mid l s 0 [] [] ps ns D [] last last :=
  ⟨rfl, rfl, rfl, .nil, (fun _ h => nomatch h), (fun _ _ h => (h rfl).elim), fun _ => rfl, .nil, (fun _ h => nomatch h), (fun _ h => nomatch h), (fun _ h => nomatch h), ha, Int.le_refl _, h0, h9, Nat.le_refl _⟩
theorem Mid.step {l : Nat} {s : List (Sh l)} {i : Nat} {ts : List (Tr l)} {ks ks' : List Int} {ps : List (Int × Int)} {ns : List Int} {D D' D5 : List (Int × Pg)} {last last' last5 : Int} {k : Sh l} {t : Tr l}
    (h : Mid l s i ts ks ps ns D D' last last') (hk : s[i]? = some k)
    (hks : (i = 0 ∧ ks' = []) ∨ (i ≠ 0 ∧ ∃ a, ks' = ks ++ [a] ∧ last' < a ∧ ∀ q ∈ ps.drop ((s.take i).map (cntS l)).sum, a ≤ q.1))
    (g : Gen l k t (ps.drop ((s.take i).map (cntS l)).sum) (ns.drop ((s.take i).map (pgsS l)).sum) (D ++ D') D5 last' last5)
    (cp : 0 < cntS l k) (hm : ((s.take i).map (cntS l)).sum + cntS l k ≤ ps.length) : Mid l s (i + 1) (ts ++ [t]) ks' ps ns D (D' ++ D5) last last5 := by
  have le : last' ≤ last5 := g.le
  have ec := sum_more (cntS l) hk
  have ep := sum_more (pgsS l) hk
  have et : ps.take ((s.take (i + 1)).map (cntS l)).sum = ps.take ((s.take i).map (cntS l)).sum ++ (ps.drop ((s.take i).map (cntS l)).sum).take (cntS l k) := by rw [ec, List.take_add]
  have en : ns.take ((s.take (i + 1)).map (pgsS l)).sum = ns.take ((s.take i).map (pgsS l)).sum ++ (ns.drop ((s.take i).map (pgsS l)).sum).take (pgsS l k) := by rw [ep, List.take_add]
  have ed : ps.drop ((s.take (i + 1)).map (cntS l)).sum = (ps.drop ((s.take i).map (cntS l)).sum).drop (cntS l k) := by rw [ec, List.drop_drop]
  refine ⟨?_, ?_, ?_, ?_, ?_, ?_, ?_, ?_, ?_, ?_, ?_, ?_, Int.le_trans h.le le, h.last0, g.le9, ?_⟩
  · rw [List.map_append, h.shapes, take_more hk, ← g.shape]
    rfl
  · rw [List.flatMap_append, h.pairs, et, ← g.pairs]
    simp
  · rw [List.flatMap_append, h.number, en, ← g.number]
    simp
  · rw [List.map_append, List.flatMap_append]
    refine h.perm.append ?_
    rw [show [t].flatMap (nums l) = nums l t by simp]
    exact g.keys
  · intro u hu
    rw [← List.append_assoc]
    rcases List.mem_append.mp hu with hu | hu
    · exact (h.laid u hu).more
    · obtain rfl := List.mem_singleton.mp hu
      exact g.laid
  · intro lo hi _ hall
    rw [et] at hall
    rcases hks with ⟨e, rfl⟩ | ⟨e, a, rfl, h1, h2⟩
    · have : ts = [] := by
        have z := congrArg List.length h.shapes
        rw [List.length_map, e, List.take_zero] at z
        exact List.eq_nil_of_length_eq_zero z
      subst this
      exact g.keyB lo hi fun q hq => hall q (List.mem_append_right _ hq)
    · refine KBs.snoc (g.keyB a hi fun q hq => ⟨h2 q (List.mem_of_mem_take hq), (hall q (List.mem_append_right _ hq)).2⟩) (h.kb lo a e fun q hq => ⟨(hall q (List.mem_append_left _ hq)).1, ?_⟩)
      have := h.below q hq
      omega
  · intro e
    omega
  · rcases hks with ⟨e, rfl⟩ | ⟨e, a, rfl, h1, h2⟩
    · exact .nil
    · refine List.pairwise_append.mpr ⟨h.rising, List.pairwise_singleton _ _, fun x hx y hy => ?_⟩
      obtain rfl := List.mem_singleton.mp hy
      have := (h.range x hx).2
      omega
  · intro x hx
    rcases hks with ⟨e, rfl⟩ | ⟨e, a, rfl, h1, h2⟩
    · cases hx
    · rcases List.mem_append.mp hx with hx | hx
      · have := h.range x hx
        exact ⟨this.1, by omega⟩
      · obtain rfl := List.mem_singleton.mp hx
        have h3 := h.le
        have h4 := h.last0
        refine ⟨by omega, ?_⟩
        cases c : (ps.drop ((s.take i).map (cntS l)).sum).take (cntS l k) with
        | nil =>
          have z := congrArg List.length c
          rw [List.length_take, List.length_drop, List.length_nil] at z
          omega
        | cons q qs =>
          have hq : q ∈ (ps.drop ((s.take i).map (cntS l)).sum).take (cntS l k) := by rw [c]; exact List.mem_cons_self ..
          have z1 := h2 q (List.mem_of_mem_take hq)
          have z2 := g.below q hq
          omega
  · intro u hu
    rcases List.mem_append.mp hu with hu | hu
    · exact h.keyOk u hu
    · obtain rfl := List.mem_singleton.mp hu
      exact g.keyOk
  · rw [et]
    intro q hq
    rcases List.mem_append.mp hq with hq | hq
    · exact Int.le_trans (h.below q hq) le
    · exact g.below q hq
  · rw [ed]
    exact g.above
  · rcases hks with ⟨e, rfl⟩ | ⟨e, a, rfl, h1, h2⟩
    · exact Nat.zero_le _
    · have := h.few
      rw [List.length_append]
      show ks.length + 1 ≤ i + 1
      omega
theorem Mid.done {l : Nat} {s : Sh (l + 1)} {z : Int} {ts : List (Tr l)} {ks : List Int} {ps : List (Int × Int)} {ns : List Int} {D D' : List (Int × Pg)} {last last' : Int}
    (h : Mid l s.ks s.ks.length ts ks ps ns D D' last last') (hn : s.ks.length ≠ 0) (hall : All 0 1000000001 ps) (hz : lkp D z = none) (hz2 : z ∉ ns) :
    Gen (l + 1) s (ndT z ks ts) ps (z :: ns) D (D' ++ [(z, .node ks (ts.map (num l)))]) last last' := by
  have ec : cntS (l + 1) s = ((s.ks.take s.ks.length).map (cntS l)).sum := by rw [List.take_length]; rfl
  have ep : pgsS (l + 1) s = ((s.ks.take s.ks.length).map (pgsS l)).sum + 1 := by rw [List.take_length]; exact Nat.add_comm _ _
  have hkb : ∀ lo hi, All lo hi (ps.take (cntS (l + 1) s)) → KBs (KeyB l) lo ks ts hi := fun lo hi hl => h.kb lo hi hn (by rw [← ec]; exact hl)
  have hd' : lkp (D ++ D') z = none := lkp_none fun q hq e => by
    rcases List.mem_append.mp hq with hq | hq
    · exact lkp_ne hz q hq e
    · have m : q.1 ∈ ts.flatMap (nums l) := h.perm.mem_iff.mp (List.mem_map_of_mem hq)
      rw [h.number, e] at m
      exact hz2 (List.mem_of_mem_take m)
  refine ⟨?_, ?_, ?_, ?_, ⟨?_, ?_⟩, hkb, ⟨h.rising, fun k hk => ?_, ?_, h.keyOk⟩, ?_, ?_, h.le, h.le9⟩
  · have := h.shapes
    rw [List.take_length] at this
    exact this
  · rw [ec]
    exact h.pairs
  · rw [ep]
    show z :: ts.flatMap (nums l) = z :: ns.take _
    rw [h.number]
  · show ((D' ++ [(z, Pg.node ks (ts.map (num l)))]).map (·.1)).Perm (z :: ts.flatMap (nums l))
    rw [List.map_append]
    refine (List.perm_append_comm (l₁ := D'.map (·.1)) (l₂ := [z])).trans ?_
    exact List.Perm.cons z h.perm
  · rw [← List.append_assoc]
    exact lkp_end hd'
  · intro k hk
    rw [← List.append_assoc]
    exact (h.laid k hk).more
  · have a := h.range k hk
    have b := h.le9
    exact ⟨a.1, by omega⟩
  · exact (hkb 0 1000000001 fun q hq => hall q (List.mem_of_mem_take hq)).len
  · rw [ec]
    exact h.below
  · rw [ec]
    exact h.above
end TR

/-! ### leaves, their followers, the sorted pages -/
namespace TR
open PySem PySem.Spec PyProof.Rows L2 HX
def lvs : (l : Nat) → Tr l → List Int
  | 0, t => [num 0 t]
  | l + 1, t => t.kids.flatMap (lvs l)
theorem flatMap_sub {α β : Type} {f g : α → List β} : ∀ {xs : List α}, (∀ x ∈ xs, (f x).Sublist (g x)) → (xs.flatMap f).Sublist (xs.flatMap g)
  | [], _ => List.Sublist.refl _
  | x :: xs, h => by
    rw [List.flatMap_cons, List.flatMap_cons]
    exact (h x (List.mem_cons_self ..)).append (flatMap_sub fun y hy => h y (List.mem_cons_of_mem _ hy))
theorem lvs_sub : ∀ {l : Nat} {t : Tr l}, (lvs l t).Sublist (nums l t)
  | 0, _ => List.Sublist.refl _
  | l + 1, t => (flatMap_sub fun k _ => lvs_sub (l := l) (t := k)).trans (List.sublist_cons_self _ _)
theorem lvs_leaf {D : List (Int × Pg)} : ∀ {l : Nat} {t : Tr l}, Laid D l t → ∀ {n : Int}, n ∈ lvs l t → ∃ ps nx, lkp D n = some (.leaf ps nx)
  | 0, t, ⟨nx, h⟩, n, hn => by
    obtain rfl := List.mem_singleton.mp hn
    exact ⟨_, _, h⟩
  | l + 1, t, ⟨_, h⟩, n, hn => by
    obtain ⟨k, hk, hn⟩ := List.mem_flatMap.mp hn
    exact lvs_leaf (h k hk) hn
theorem lvs_len : ∀ {l : Nat} {t : Tr l}, (lvs l t).length ≤ (nums l t).length := lvs_sub.length_le
def setp (D : List (Int × Pg)) (k : Int) (g : Pg) : List (Int × Pg) := D.map fun q => if q.1 = k then (q.1, g) else q
theorem setp_keys (D : List (Int × Pg)) (k : Int) (g : Pg) : (setp D k g).map (·.1) = D.map (·.1) := by
  unfold setp
  rw [List.map_map]
  refine List.map_congr_left fun q _ => ?_
  show (if q.1 = k then (q.1, g) else q).1 = q.1
  split <;> rfl
theorem lkp_cons {q : Int × Pg} {D : List (Int × Pg)} {k : Int} : lkp (q :: D) k = if q.1 = k then some q.2 else lkp D k := by
  unfold lkp
  by_cases e : q.1 = k
  · rw [List.find?_cons_of_pos (by exact decide_eq_true e), if_pos e]
    rfl
  · rw [List.find?_cons_of_neg (by simpa using e), if_neg e]
theorem lkp_setp {k k' : Int} {g : Pg} : ∀ {D : List (Int × Pg)}, lkp (setp D k g) k' = if k' = k then (lkp D k).map (fun _ => g) else lkp D k'
  | [] => by
    show none = if k' = k then none else none
    split <;> rfl
  | q :: D => by
    have e : setp (q :: D) k g = (if q.1 = k then (q.1, g) else q) :: setp D k g := rfl
    rw [e, lkp_cons, lkp_setp, lkp_cons, lkp_cons]
    by_cases h : q.1 = k
    · rw [if_pos h]
      by_cases h2 : k' = k
      · rw [if_pos (show (q.1, g).1 = k' from h.trans h2.symm), if_pos h2, if_pos h]
        rfl
      · rw [if_neg (show ¬ (q.1, g).1 = k' from fun z => h2 (z.symm.trans h)), if_neg h2, if_neg h2, if_neg (fun z => h2 (z.symm.trans h))]
    · rw [if_neg h]
      by_cases h2 : k' = k
      · subst h2
        rw [if_neg h, if_pos rfl, if_pos rfl, if_neg h]
      · rw [if_neg h2, if_neg h2]
theorem lkp_setp_eq {D : List (Int × Pg)} {k : Int} {g x : Pg} (h : lkp D k = some x) : lkp (setp D k g) k = some g := by
  rw [lkp_setp, if_pos rfl, h]
  rfl
theorem lkp_setp_ne {D : List (Int × Pg)} {k k' : Int} {g : Pg} (h : k' ≠ k) : lkp (setp D k g) k' = lkp D k' := by rw [lkp_setp, if_neg h]
theorem Laid.setp {D : List (Int × Pg)} {k : Int} {ps : List (Int × Int)} {nx nx' : Int} (e : lkp D k = some (.leaf ps nx)) : ∀ {l : Nat} {t : Tr l}, Laid D l t → Laid (setp D k (.leaf ps nx')) l t
  | 0, t, ⟨m, h⟩ => by
    by_cases c : num 0 t = k
    · rw [c, e] at h
      injection h with h
      injection h with h1 h2
      exact ⟨nx', by rw [c, lkp_setp_eq e, h1]⟩
    · exact ⟨m, by rw [lkp_setp_ne c]; exact h⟩
  | l + 1, t, ⟨h, g⟩ => by
    have c : num (l + 1) t ≠ k := fun c => by
      rw [c, e] at h
      cases h
    exact ⟨by rw [lkp_setp_ne c]; exact h, fun x hx => Laid.setp e (g x hx)⟩
theorem Laid.congr {D S : List (Int × Pg)} (e : ∀ k, lkp S k = lkp D k) : ∀ {l : Nat} {t : Tr l}, Laid D l t → Laid S l t
  | 0, _, ⟨nx, h⟩ => ⟨nx, (e _).trans h⟩
  | _ + 1, _, ⟨h, g⟩ => ⟨(e _).trans h, fun k hk => (g k hk).congr e⟩
theorem nodup_at {α : Type} {L : List α} (nd : L.Nodup) {i j : Nat} {x : α} (h1 : L[i]? = some x) (h2 : L[j]? = some x) : i = j := by
  obtain ⟨a1, a2⟩ := List.getElem?_eq_some_iff.mp h1
  obtain ⟨b1, b2⟩ := List.getElem?_eq_some_iff.mp h2
  have z := List.pairwise_iff_getElem.mp nd
  rcases Nat.lt_trichotomy i j with h | h | h
  · exact (z i j a1 b1 h (a2.trans b2.symm)).elim
  · exact h
  · exact (z j i b1 a1 h (b2.trans a2.symm)).elim
/-- each leaf names the next one, the last one none -/
def NextOk (D : List (Int × Pg)) (L : List Int) (i : Nat) : Prop := ∀ j n, j < i → L[j]? = some n → ∃ ps, lkp D n = some (.leaf ps ((L[j + 1]?).getD 0))
theorem foll {L : List Int} {i : Nat} (h : i < L.length) : (L.drop 1 ++ [0])[i]? = some ((L[i + 1]?).getD 0) := by
  by_cases c : i + 1 < L.length
  · rw [List.getElem?_append_left (by rw [List.length_drop]; omega), List.getElem?_drop, Nat.add_comm 1 i, List.getElem?_eq_getElem c]
    rfl
  · rw [List.getElem?_append_right (by rw [List.length_drop]; omega), List.getElem?_eq_none (l := L) (by omega), List.length_drop, show i - (L.length - 1) = 0 by omega]
    rfl
theorem NextOk.step {D : List (Int × Pg)} {L : List Int} {i : Nat} {n : Int} {ps : List (Int × Int)} {nx : Int} (h : NextOk D L i) (nd : L.Nodup) (hn : L[i]? = some n) (e : lkp D n = some (.leaf ps nx)) : NextOk (setp D n (.leaf ps ((L[i + 1]?).getD 0))) L (i + 1) := fun j m hj hm => by
  by_cases c : j = i
  · subst c
    rw [hn] at hm
    cases hm
    exact ⟨ps, lkp_setp_eq e⟩
  · have ne : m ≠ n := fun q => by
      subst q
      exact c (nodup_at nd hm hn)
    obtain ⟨qs, hq⟩ := h j m (by omega) hm
    exact ⟨qs, by rw [lkp_setp_ne ne]; exact hq⟩
theorem lkp_mem {D : List (Int × Pg)} {k : Int} {g : Pg} (h : lkp D k = some g) : (k, g) ∈ D := by
  unfold lkp at h
  cases c : D.find? fun q => decide (q.1 = k) with
  | none => rw [c] at h; cases h
  | some x =>
    rw [c] at h
    have h1 := List.mem_of_find?_eq_some c
    have h2 : x.1 = k := of_decide_eq_true (List.find?_some (p := fun q : Int × Pg => decide (q.1 = k)) c)
    have h3 : x.2 = g := Option.some.inj h
    obtain ⟨a, b⟩ := x
    subst h2 h3
    exact h1
theorem mem_lkp {D : List (Int × Pg)} (nd : (D.map (·.1)).Nodup) {k : Int} {g : Pg} (h : (k, g) ∈ D) : lkp D k = some g := by
  induction D with
  | nil => cases h
  | cons q D ih =>
    rw [lkp_cons]
    rw [List.map_cons, List.nodup_cons] at nd
    rcases List.mem_cons.mp h with h | h
    · subst h
      rw [if_pos rfl]
    · rw [if_neg (fun e => nd.1 (by rw [e]; exact List.mem_map_of_mem h))]
      exact ih nd.2 h
theorem lkp_perm {D S : List (Int × Pg)} (nd : (D.map (·.1)).Nodup) (p : S.Perm D) (k : Int) : lkp S k = lkp D k := by
  have nd2 : (S.map (·.1)).Nodup := (p.map (·.1)).nodup_iff.mpr nd
  cases c : lkp D k with
  | some g => exact mem_lkp nd2 (p.mem_iff.mpr (lkp_mem c))
  | none =>
    refine lkp_none fun q hq e => ?_
    exact lkp_ne c q (p.mem_iff.mp hq) e
theorem paired_perm {α β : Type} {R : α → β → Prop} {xs xs' : List α} (p : xs'.Perm xs) : ∀ {ys : List β}, Paired R xs ys → ∃ ys', ys'.Perm ys ∧ Paired R xs' ys' := by
  induction p with
  | nil => exact fun h => ⟨_, .refl _, h⟩
  | cons x p ih =>
    intro ys h
    cases h with
    | cons r rs =>
      obtain ⟨ys', h1, h2⟩ := ih rs
      exact ⟨_, h1.cons _, .cons r h2⟩
  | swap x y l =>
    intro ys h
    cases h with
    | cons r rs =>
      cases rs with
      | cons r2 rs => exact ⟨_, .swap _ _ _, .cons r2 (.cons r rs)⟩
  | trans p1 p2 ih1 ih2 =>
    intro ys h
    obtain ⟨y1, h1, h2⟩ := ih2 h
    obtain ⟨y2, h3, h4⟩ := ih1 h2
    exact ⟨y2, h3.trans h1, h4⟩
/-- a sound tree, its pages by their numbers -/
structure Tree (room l : Nat) (t : Tr l) (S : List (Int × Pg)) : Prop where
  r3 : 3 ≤ room
  r8 : room ≤ 8
  wf : WfSh room l true (shp l t)
  nodup : (nums l t).Nodup
  range : ∀ k ∈ nums l t, 1 ≤ k ∧ k ≤ 1000000
  perm : (S.map (·.1)).Perm (nums l t)
  sorted : S.Pairwise fun a b => a.1 < b.1
  laid : Laid S l t
  next : NextOk S (lvs l t) (lvs l t).length
  keyB : KeyB l t 0 1000000001
  keyOk : KeyOk l t
  rising : (prs l t).Pairwise fun a b => a.1 < b.1
  good : ∀ q ∈ prs l t, 0 ≤ q.1 ∧ q.1 ≤ 1000000000 ∧ 0 ≤ q.2 ∧ q.2 ≤ 1000000000
  few : (nums l t).length ≤ 1000
end TR

/-! ### more rules -/
namespace RU
open PySem PySem.Spec PyProof.Rows L2 HX RZ
section
variable {X : Cx}
def rSeq (K : PySem.W.Frag) : V → Option Int → Option Int → Hp → VK → Prop := fun x lo hi H Q => rSlL K x lo hi H Q ∨ rSlA K x lo hi H Q
theorem sl_seq : SlR X (rSeq X.K) := SlR.or sl_list sl_tupA
end
theorem walk_zipT {K : PySem.W.Frag} {a b : Addr} {xs ys : List V} {n : Nat} (hn : n = min xs.length ys.length) : Walk (ItzT K a b) n (fun H => SqT K H a xs ∧ SqT K H b ys) (YPair (fun i => xs[i]?) (fun i => ys[i]?)) := by
  subst hn
  refine ⟨fun i _ hi q => ?_, fun _ q => ⟨xs, ys, q.1, q.2, by omega⟩, fun i H v H' _ q y => ?_⟩
  · have h1 : i < xs.length := by omega
    have h2 : i < ys.length := by omega
    exact ⟨xs, ys, xs[i], ys[i], q.1, q.2, by simp [h1], by simp [h2]⟩
  · obtain ⟨T, x, z, h1, h2, h3, h4, h5⟩ := y
    exact ⟨T, x, z, h1, h2, h3, h4 xs q.1, h5 ys q.2⟩
end RU
/-! ### zip of three tuples -/
namespace RU
open PySem PySem.Spec PyProof.Rows L2 HX RZ
def ItzT3 (K : PySem.W.Frag) (a b c : Addr) : It :=
  ⟨fun i H => ∃ (xs ys zs : List V), SqT K H a xs ∧ SqT K H b ys ∧ SqT K H c zs ∧ i < min (min xs.length ys.length) zs.length,
    fun i H v H' => ∃ T x y z, v = .ref T ∧ H T = none ∧ H' = upd H T (.tup [x, y, z]) ∧ (∀ xs, SqT K H a xs → xs[i]? = some x) ∧ (∀ ys, SqT K H b ys → ys[i]? = some y) ∧ ∀ zs, SqT K H c zs → zs[i]? = some z,
    fun i H => ∃ xs ys zs : List V, SqT K H a xs ∧ SqT K H b ys ∧ SqT K H c zs ∧ i = min (min xs.length ys.length) zs.length⟩
def Zn3 (z TI TO i1 i2 i3 a b c : Addr) (i : Nat) (h : Heap) : Prop := IsZip h z TI TO .none ∧ IsTupOf3 h TI (.ref i1) (.ref i2) (.ref i3) ∧ (∃ x y u, IsTupOf3 h TO x y u) ∧ h.IsTupleIter i1 a i ∧ h.IsTupleIter i2 b i ∧ h.IsTupleIter i3 c i
theorem turn_zip3 {P : Program} {w : World} {K : PySem.W.Frag} {elts : List Expr} {kk : Nat} {tpos : Pos} {a b c z TI TO i1 i2 i3 : Addr} (S : ZipSep3 z TI TO i1 i2 i3 [i1, a] [i2, b] [i3, c]) (na : a ≠ i1) (nb : b ≠ i2) (nc : c ≠ i3) :
    Turn P w K (.Tuple elts kk tpos) (ItzT3 K a b c) [z, TI, TO, i1, i2, i3] z (Zn3 z TI TO i1 i2 i3 a b c) where
  mem := by simp
  obj := fun i h st m hm => by
    obtain ⟨hz, hTI, ⟨x, y, u, hTO⟩, ⟨o1, e1, _, d1⟩, ⟨o2, e2, _, d2⟩, ⟨o3, e3, _, d3⟩⟩ := st
    have e' : m = z ∨ m = TI ∨ m = TO ∨ m = i1 ∨ m = i2 ∨ m = i3 := by simpa using hm
    rcases e' with q | q | q | q | q | q
    · rw [q]; exact ⟨_, hz, fun v q => nomatch q⟩
    · rw [q]; exact ⟨_, hTI, fun v q => nomatch q⟩
    · rw [q]; exact ⟨_, hTO, fun v q => nomatch q⟩
    · rw [q]; exact ⟨o1, e1, fun v q => by rw [d1] at q; cases q⟩
    · rw [q]; exact ⟨o2, e2, fun v q => by rw [d2] at q; cases q⟩
    · rw [q]; exact ⟨o3, e3, fun v q => by rw [d3] at q; cases q⟩
  keep := fun i h h' st k => by
    obtain ⟨hz, hTI, ⟨x, y, u, hTO⟩, h1, h2, h3⟩ := st
    exact ⟨k z (by simp) _ hz, k TI (by simp) _ hTI, ⟨x, y, u, k TO (by simp) _ hTO⟩, h1.at fun o q => k i1 (by simp) o q, h2.at fun o q => k i2 (by simp) o q, h3.at fun o q => k i3 (by simp) o q⟩
  item := by
    intro X hP hw hK hc i pins s σ H E I hf st hg
    subst hP hw hK
    obtain ⟨hz, hTI, hTO, h1, h2, h3⟩ := st
    obtain ⟨xs, ys, zs, hqx, hqy, hqz, hlt⟩ := hg
    obtain ⟨its, rv, p, _⟩ := I.tuple hqx
    obtain ⟨its2, rv2, p2, _⟩ := I.tuple hqy
    obtain ⟨its3, rv3, p3, _⟩ := I.tuple hqz
    have hh : X.A.handled = none := I.ok.hd hc
    have W := GoesN.zip3 (prog := X.prog) (w := X.w) (A := X.A) (elts := elts) (x1 := kk) (pos := tpos) S (Draws.tuple (A := X.A.in1) hh i1 a na its.toArray) (Draws.tuple (A := X.A.in1) hh i2 b nb its2.toArray) (Draws.tuple (A := X.A.in1) hh i3 c nc its3.toArray)
    have l1 := rv.length
    have l2 := rv2.length
    have l3 := rv3.length
    refine W.goes i s (fun u s2 => ∃ x H', Inv X pins σ H' s2 ∧ RelV x u ∧ (ItzT3 X.K a b c).yld i H x H' ∧ Zn3 z TI TO i1 i2 i3 a b c (i + 1) s2.heap ∧ ∀ b ∈ [z, TI, TO, i1, i2, i3], H' b = none) E (by simp only [List.size_toArray]; omega) ⟨hz, hTI, hTO, ⟨h1, p⟩, ⟨h2, p2⟩, ⟨h3, p3⟩⟩ fun v h' tk hY st' hk htk => ?_
    obtain ⟨T, u1, u2, u3, rfl, hT, e1, e2, e3, hTt⟩ := hY
    have hx : xs[i]? = some (xs[i]'(by omega)) := List.getElem?_eq_getElem (by omega)
    have hy : ys[i]? = some (ys[i]'(by omega)) := List.getElem?_eq_getElem (by omega)
    have hw' : zs[i]? = some (zs[i]'(by omega)) := List.getElem?_eq_getElem (by omega)
    obtain ⟨v1, hu1, r1⟩ := rv.get hx
    obtain ⟨v2, hu2, r2⟩ := rv2.get hy
    obtain ⟨v3, hu3, r3⟩ := rv3.get hw'
    have q1 : v1 = u1 := by
      have : its.toArray[i]? = some v1 := by simpa using hu1
      rw [this] at e1
      exact Option.some.inj e1
    have q2 : v2 = u2 := by
      have : its2.toArray[i]? = some v2 := by simpa using hu2
      rw [this] at e2
      exact Option.some.inj e2
    have q3 : v3 = u3 := by
      have : its3.toArray[i]? = some v3 := by simpa using hu3
      rw [this] at e3
      exact Option.some.inj e3
    subst q1 q2 q3
    have new : ObjOk X.prog X.w (upd H T (.tup [xs[i]'(by omega), ys[i]'(by omega), zs[i]'(by omega)])) h' T (.tup [xs[i]'(by omega), ys[i]'(by omega), zs[i]'(by omega)]) := ⟨by show 3 ≤ sizeLine; decide, [v1, v2, v3], .cons r1 (.cons r2 (.cons r3 .nil)), hTt⟩
    have hf' : ∀ m ∈ [z, TO, i1, i2, i3], FpOk X pins H m := fun m hm => hf m (by
      have e' : m = z ∨ m = TO ∨ m = i1 ∨ m = i2 ∨ m = i3 := by simpa using hm
      rcases e' with q | q | q | q | q <;> simp [q])
    have I1 := I.turnedNew (t' := tk) (ch := [z, TO, i1, i2, i3]) hk hf' hT new
    refine ⟨.ref T, _, I1, rfl, ⟨T, _, _, _, rfl, I.hok.fresh hT, rfl, fun l hl => by rw [I.tuple_inj hl hqx]; exact hx, fun l hl => by rw [I.tuple_inj hl hqy]; exact hy, fun l hl => by rw [I.tuple_inj hl hqz]; exact hw'⟩, ⟨st'.1, st'.2.1, st'.2.2.1, st'.2.2.2.1.1, st'.2.2.2.2.1.1, st'.2.2.2.2.2.1⟩, fun m hm => ?_⟩
    have e' : m = z ∨ m = TI ∨ m = TO ∨ m = i1 ∨ m = i2 ∨ m = i3 := by simpa using hm
    have hlt2 : m < s.heap.objs.size := by
      obtain ⟨x, y, u, hTO⟩ := hTO
      rcases e' with q | q | q | q | q | q
      · rw [q]; exact Heap.lt_size hz
      · rw [q]; exact Heap.lt_size hTI
      · rw [q]; exact Heap.lt_size hTO
      · rw [q]; obtain ⟨_, e1, _⟩ := h1; exact Heap.lt_size e1
      · rw [q]; obtain ⟨_, e2, _⟩ := h2; exact Heap.lt_size e2
      · rw [q]; obtain ⟨_, e3, _⟩ := h3; exact Heap.lt_size e3
    rw [upd_ne (Nat.ne_of_lt (Nat.lt_of_lt_of_le hlt2 hT))]
    exact (hf m hm).1
  done := by
    intro X hP hw hK hc i pins s σ H E I hf st hg
    subst hP hw hK
    obtain ⟨hz, hTI, hTO, h1, h2, h3⟩ := st
    obtain ⟨xs, ys, zs, hqx, hqy, hqz, hend⟩ := hg
    obtain ⟨its, rv, p, _⟩ := I.tuple hqx
    obtain ⟨its2, rv2, p2, _⟩ := I.tuple hqy
    obtain ⟨its3, rv3, p3, _⟩ := I.tuple hqz
    have hh : X.A.handled = none := I.ok.hd hc
    have W := GoesN.zip3 (prog := X.prog) (w := X.w) (A := X.A) (elts := elts) (x1 := kk) (pos := tpos) S (Draws.tuple (A := X.A.in1) hh i1 a na its.toArray) (Draws.tuple (A := X.A.in1) hh i2 b nb its2.toArray) (Draws.tuple (A := X.A.in1) hh i3 c nc its3.toArray)
    have l1 := rv.length
    have l2 := rv2.length
    have l3 := rv3.length
    have en : i = min (min its.toArray.size its2.toArray.size) its3.toArray.size := by simp only [List.size_toArray]; omega
    subst en
    have hf' : ∀ m ∈ [z, TO, i1, i2, i3], FpOk X pins H m := fun m hm => hf m (by
      have e' : m = z ∨ m = TO ∨ m = i1 ∨ m = i2 ∨ m = i3 := by simpa using hm
      rcases e' with q | q | q | q | q <;> simp [q])
    exact W.stops s (fun s1 => Inv X pins σ H s1) E ⟨hz, hTI, hTO, ⟨h1, p⟩, ⟨h2, p2⟩, ⟨h3, p3⟩⟩ fun h' tk hk htk => I.turnedL (t' := tk) (ch := [z, TO, i1, i2, i3]) hk hf'
  self := fun A i s Q E st h => wpAny_pyIter_zip st.1 h
def iZip3 (K : PySem.W.Frag) (ta : TA) : TI := fun σ H R => ta σ H fun vs H1 => ∃ a b c xs ys zs, vs = [.ref a, .ref b, .ref c] ∧ SqT K H1 a xs ∧ SqT K H1 b ys ∧ SqT K H1 c zs ∧ R (ItzT3 K a b c) H1
theorem pi_zip3 {X : Cx} {e e2 e3 : Expr} {ta : TA} {p pos tpos : Pos} {elts : List Expr} {kk : Nat} (hg : Gl X "zip") (hm : X.mg "zip" = none) (ha : PA X [e, e2, e3] ta)
    (hs : starEach [e, e2, e3] X.env = (false, eval e X.env) :: starEach [e2, e3] X.env := by rfl) (hpl : (backTo pos (starEach [e2, e3] X.env)).any (·.1) = false := by rfl) :
    PI X (.Tuple elts kk tpos) (.Call (.Name "zip" p) [e, e2, e3] [] pos) (iZip3 X.K ta) := by
  refine ⟨fun pins s σ H R I h => ?_⟩
  refine Call_ (ld_blt I hg hm PyProof.Rows.boot_zip (PyProof.Rows.callWith_type1 (thn (ha.run pos pins s σ H _ I h) fun us s1 ⟨vs, H1, I1, r1, q1⟩ => ?_) hs hpl))
  obtain ⟨a, b, c, xs, ys, zs, ex, hqx, hqy, hqz, q⟩ := q1
  subst ex
  cases r1 with
  | cons r rr =>
    cases rr with
    | cons r' rr =>
      cases rr with
      | cons r'' rr =>
        cases rr
        cases r
        cases r'
        cases r''
        have fresh6 : ∀ m, m ∈ [s1.heap.objs.size + 5, s1.heap.objs.size + 3, s1.heap.objs.size + 4, s1.heap.objs.size, s1.heap.objs.size + 1, s1.heap.objs.size + 2] → FpOk X pins H1 m := fun m hcm => by
          have e' : m = s1.heap.objs.size + 5 ∨ m = s1.heap.objs.size + 3 ∨ m = s1.heap.objs.size + 4 ∨ m = s1.heap.objs.size ∨ m = s1.heap.objs.size + 1 ∨ m = s1.heap.objs.size + 2 := by simpa using hcm
          have hle : s1.heap.objs.size ≤ m := by
            rcases e' with z | z | z | z | z | z
            · rw [z]; exact Nat.le_add_right _ _
            · rw [z]; exact Nat.le_add_right _ _
            · rw [z]; exact Nat.le_add_right _ _
            · rw [z]; exact Nat.le_refl _
            · rw [z]; exact Nat.le_add_right _ _
            · rw [z]; exact Nat.le_add_right _ _
          exact I1.fpOk hle (I1.hok.fresh hle)
        obtain ⟨its, rv, p1, _⟩ := I1.tuple hqx
        obtain ⟨its2, rv2, p2, _⟩ := I1.tuple hqy
        obtain ⟨its3, rv3, p3, _⟩ := I1.tuple hqz
        obtain ⟨o1, ho1, _⟩ := id p1
        obtain ⟨o2, ho2, _⟩ := id p2
        obtain ⟨o3, ho3, _⟩ := id p3
        have la := Heap.lt_size ho1
        have lb := Heap.lt_size ho2
        have lc := Heap.lt_size ho3
        refine zip_begins3 (begins_tuple a its.toArray) (begins_tuple b its2.toArray) (begins_tuple c its3.toArray) p1 p2 p3 fun h' hz hTI hTO h1 h2 h3 hsz hk => wpAny_pyIter_zip hz ?_
        have I2 : Inv X pins σ H1 { s1 with heap := h' } := I1.kept (t' := s1.toks) hk
        have S : ZipSep3 (s1.heap.objs.size + 5) (s1.heap.objs.size + 3) (s1.heap.objs.size + 4) s1.heap.objs.size (s1.heap.objs.size + 1) (s1.heap.objs.size + 2) [s1.heap.objs.size, a] [s1.heap.objs.size + 1, b] [s1.heap.objs.size + 2, c] :=
          zip_sep3 (fun m hm => by rw [List.mem_singleton.mp hm]; exact la) (fun m hm => by rw [List.mem_singleton.mp hm]; exact lb) (fun m hm => by rw [List.mem_singleton.mp hm]; exact lc)
        exact ⟨s1.heap.objs.size + 5, [s1.heap.objs.size + 5, s1.heap.objs.size + 3, s1.heap.objs.size + 4, s1.heap.objs.size, s1.heap.objs.size + 1, s1.heap.objs.size + 2], _, _, H1, rfl, I2,
          turn_zip3 S (Nat.ne_of_lt la) (Nat.ne_of_lt (Nat.lt_of_lt_of_le lb (Nat.le_add_right _ _))) (Nat.ne_of_lt (Nat.lt_of_lt_of_le lc (Nat.le_add_right _ _))), ⟨hz, hTI, ⟨_, _, _, hTO⟩, ⟨_, h1, rfl, rfl⟩, ⟨_, h2, rfl, rfl⟩, ⟨_, h3, rfl, rfl⟩⟩, fresh6, q⟩
def YTrip (xs ys zs : Nat → Option V) : Nat → Hp → V → Hp → Prop := fun i H v H' => ∃ T x y z, v = .ref T ∧ H T = none ∧ H' = upd H T (.tup [x, y, z]) ∧ xs i = some x ∧ ys i = some y ∧ zs i = some z
theorem walk_zip3 {K : PySem.W.Frag} {a b c : Addr} {xs ys zs : List V} {n : Nat} (hn : n = min (min xs.length ys.length) zs.length) : Walk (ItzT3 K a b c) n (fun H => SqT K H a xs ∧ SqT K H b ys ∧ SqT K H c zs) (YTrip (fun i => xs[i]?) (fun i => ys[i]?) (fun i => zs[i]?)) := by
  subst hn
  refine ⟨fun i _ hi q => ⟨xs, ys, zs, q.1, q.2.1, q.2.2, hi⟩, fun _ q => ⟨xs, ys, zs, q.1, q.2.1, q.2.2, rfl⟩, fun i H v H' _ q y => ?_⟩
  obtain ⟨T, x, y1, z, h1, h2, h3, h4, h5, h6⟩ := y
  exact ⟨T, x, y1, z, h1, h2, h3, h4 xs q.1, h5 ys q.2.1, h6 zs q.2.2⟩
end RU

/-! ### dict of a tuple of pairs; fields as targets -/
namespace RU
open PySem PySem.Spec PyProof.Rows L2 HX RZ
section
variable {X : Cx} {pins : List (Addr × Obj)}
/-- tuple(xs) of a list: a new tuple, of which one knows that it has no dict -/
theorem call_tupF : CallR X (.type "tuple") (fun xs H Q => ∃ p ys, xs = [.ref p] ∧ SqL X.K H p ys ∧ ∀ l o, H l = none → o.dict = none → Q (.ref l) (upd H l (.frz o (.tup ys)))) := by
  intro pins s σ H xs us Q I r h
  obtain ⟨p, ys, rfl, hq, q⟩ := h
  obtain ⟨u, rfl, rx⟩ := vals1 r
  cases rx
  obtain ⟨its, r', pl, hz⟩ := I.list hq
  have hlen := r'.length
  refine call_tuple_list pl.isList (fun h' kp => ?_) (by simp only [List.size_toArray] <;> omega)
  have I1 : Inv X pins σ H { s with heap := h' } := I.kept (t' := s.toks) kp
  have I2 : Inv X pins σ (upd H h'.objs.size (.frz { cls := .type "tuple", data := .seq its.toArray } (.tup ys))) { s with heap := h'.push { cls := .type "tuple", data := .seq its.toArray } } :=
    I1.laid (t' := s.toks) (fun b o e => Heap.get?_push_of_some _ e) (Nat.le_refl _) (show ObjOk X.prog X.w _ _ _ (.frz _ (.tup ys)) from ⟨Heap.get?_push_size _ rfl, hz, its, r', IsTup.new _ _⟩)
  exact ⟨.ref h'.objs.size, _, I2, rfl, q _ _ (I1.hok.fresh (Nat.le_refl _)) rfl⟩
theorem pairs_of2 {pins : List (Addr × Obj)} {σ : L2.St} {H : Hp} {s : Shared} (I : Inv X pins σ H s) : ∀ {ps : List Addr} {kvs : List (Key × V)}, Paired (fun p kv => SqT X.K H p [kV kv.1, kv.2]) ps kvs →
    ∃ (prs : List (Key × Value)) (pv : List (Value × Value)), KV kvs prs ∧ prs.length = ps.length ∧ pv.length = ps.length ∧ ∀ (j : Nat) (k v : Value), pv[j]? = some (k, v) → ∃ (b : Addr) (key : Key), ps[j]? = some b ∧ IsTup s.heap b #[k, v] ∧ prs[j]? = some (key, v) ∧ keyIs key k = true
  | _, _, .nil => ⟨[], [], .nil, rfl, rfl, fun j k v e => by simp at e⟩
  | _, _, .cons (a := p) (b := kv) h t => by
    obtain ⟨prs, pv, r, hl, hl2, hp⟩ := pairs_of2 I t
    obtain ⟨its, rv, ht, _⟩ := I.tuple h
    obtain ⟨u, y, ei, ru, ry⟩ := vals2 rv
    subst ei
    refine ⟨(kv.1, y) :: prs, (u, y) :: pv, .cons ⟨rfl, ry⟩ r, by rw [List.length_cons, List.length_cons, hl], by rw [List.length_cons, List.length_cons, hl2], fun j k v e => ?_⟩
    cases j with
    | zero =>
      have e' : (u, y) = (k, v) := Option.some.inj e
      injection e' with e1 e2
      subst e1 e2
      exact ⟨p, kv.1, rfl, ht, rfl, kV_is (P := X.prog) (w := X.w) ru⟩
    | succ j =>
      obtain ⟨b, key, e1, e2, e3, e4⟩ := hp j k v (by simpa using e)
      exact ⟨b, key, by simpa using e1, e2, by simpa using e3, e4⟩
def rDictT (K : PySem.W.Frag) : List V → Hp → VK → Prop := fun xs H Q => ∃ (a : Addr) (o : Obj) (ps : List Addr) (kvs : List (Key × V)), xs = [.ref a] ∧ H a = some (.frz o (.tup (ps.map V.ref))) ∧ o.dict = none ∧ Paired (fun p kv => SqT K H p [kV kv.1, kv.2]) ps kvs ∧
  ∀ p, H p = none → Q (.ref p) (upd H p (.dK (mergeK [] kvs)))
theorem call_dictT (hcalm : X.calm = true) : CallR X (.type "dict") (rDictT X.K) := by
  intro pins s σ H xs us Q I r q
  obtain ⟨a, o, ps, kvs, ex, ha, hdo, hp, q⟩ := q
  subst ex
  obtain ⟨u, eu, rx⟩ := vals1 r
  subst eu
  cases rx
  have ok : ObjOk X.prog X.w H s.heap a (.frz o (.tup (ps.map V.ref))) := I.hok a _ ha
  obtain ⟨hg, hz, its, rv, o', hg', hc, n, hd⟩ := ok
  rw [hg] at hg'
  cases hg'
  have ei := refs_at rv
  subst ei
  obtain ⟨prs, pv, rel, hl, hl2, hpr⟩ := pairs_of2 I hp
  rw [List.length_map] at hz
  have hitems : PairItems s.heap (ps.map Value.ref).toArray (fun j => (ps[j]?).getD 0) pv := by
    refine ⟨by simp [hl2], fun j k v e => ?_⟩
    obtain ⟨b, key, e1, e2, _⟩ := hpr j k v e
    refine ⟨by simp [e1], .inl ?_⟩
    show s.heap.IsTuple (ps[j]?.getD 0) #[k, v]
    rw [e1]
    exact e2
  refine PySem.call_dict_pairs (knd := mixKind X.prog X.w) (kvs := prs) (PairArg.tuple a (ps.map Value.ref).toArray (fun j => (ps[j]?).getD 0) pv) (I.ok.hd hcalm) ⟨⟨o, n, hg, hc, hdo, hd⟩, hitems⟩ ?_ (by rw [hl2]; exact hz) fun h' tk hd' k => ?_
  · refine ⟨by rw [hl, hl2], fun i key v hr => ?_⟩
    obtain ⟨b, kk, _, _, e3, e4⟩ := hpr i key v hr
    exact ⟨kk, e3, e4⟩
  · have hm : (s.heap.objs.size == sysModules) = false := beq_eq_false_iff_ne.mpr (Nat.ne_of_gt I.big)
    have hlen : (mergeK [] kvs).length ≤ sizeLine := by
      refine Nat.le_trans (length_mergeK kvs []) ?_
      rw [List.length_nil, Nat.zero_add, rel.length, hl]
      exact hz
    exact ⟨.ref s.heap.objs.size, upd H s.heap.objs.size (.dK (mergeK [] kvs)), I.laid (t' := tk) (fun b o e => k b o (by simp) e) (Nat.le_refl _) (show ObjOk X.prog X.w _ _ _ (.dK (mergeK [] kvs)) from ⟨hlen, hm, merged [] prs, KV.merge rel .nil, hd'⟩), rfl, q _ (I.hok.fresh (Nat.le_refl _))⟩
/-- o.f, to which a part is given -/
def gFld (K : PySem.W.Frag) (ta : TE) (f : Str) : TG := fun y σ H Q => ta σ H fun x H2 => ∃ a C dx fs, x = .ref a ∧ H2 a = some (.ins C dx fs) ∧ Cls K C ∧ NoAttr K C f ∧ fs.length < 1000 ∧ Q σ (upd H2 a (.ins C dx (putF f y fs)))
theorem pg_fld {o : Expr} {f : Str} {pos' : Pos} {ta : TE} (ha : PE X o ta) : PG X (.Attribute o f pos') (gFld X.K ta f) := by
  refine ⟨fun pins s σ H v u Q I r h => ?_⟩
  rw [assign_Attribute]
  refine wpAny_bind (wpAny_holding (thn (ha.run pins s σ H _ I h) fun ov s1 ⟨x, H1, I1, r1, a, C, dx, fs, ex, ea, c, n, l, q⟩ => ?_))
  subst ex
  obtain rfl : ov = Value.ref a := r1
  refine wpAny_bind (wpAny_standAt (wpAny_bind (wpAny_holding (setattr_ok I1 ea c n l r fun s2 I2 => ?_))))
  exact wpAny_release ⟨σ, _, I2, q⟩
end
theorem putK_new {kvs : List (Key × V)} {k : Key} {v : V} (h : ∀ q ∈ kvs, q.1 ≠ k) : putK kvs k v = kvs ++ [(k, v)] := by
  unfold putK
  rw [if_neg]
  intro z
  obtain ⟨x, hx, hx2⟩ := List.any_eq_true.mp z
  exact h x hx (of_decide_eq_true hx2)
theorem mergeK_nodup : ∀ {more kvs : List (Key × V)}, ((kvs ++ more).map (·.1)).Nodup → mergeK kvs more = kvs ++ more
  | [], kvs, _ => (List.append_nil kvs).symm
  | p :: more, kvs, h => by
    have e : mergeK kvs (p :: more) = mergeK (putK kvs p.1 p.2) more := rfl
    have hn : ∀ q ∈ kvs, q.1 ≠ p.1 := fun q hq e => by
      rw [List.map_append, List.map_cons] at h
      exact (List.nodup_append.mp h).2.2 q.1 (List.mem_map_of_mem hq) p.1 (List.mem_cons_self ..) e
    rw [e, putK_new hn, mergeK_nodup (by rw [List.append_assoc]; exact h), List.append_assoc]
    rfl
/-- a walk whose body says by itself where it goes on -/
theorem out_it {J : It} {n : Nat} {G : Hp → Prop} {Y : Nat → Hp → V → Hp → Prop} (w : Walk J n G Y) {H0 : Hp} {body : V → Hp → (Hp → Prop) → Prop} {Qd : Hp → Prop} (Pv : Nat → Hp → Prop) (h0 : Pv 0 H0) (hG : ∀ i H, i ≤ n → Pv i H → G H)
    (hs : ∀ i x H H', i < n → Pv i H → Y i H x H' → body x H' (Pv (i + 1))) (hd : ∀ H, Pv n H → Qd H) :
    ∃ W : Nat → Nat → Hp → Prop, (∃ m, W 0 m H0) ∧ ∀ i m H, W i m H → (J.stop i H ∧ Qd H) ∨ (J.go i H ∧ ∃ Nx : Hp → Prop, (∀ H', Nx H' → ∃ m', m' < m ∧ W (i + 1) m' H') ∧ ∀ x H', J.yld i H x H' → body x H' Nx) := by
  refine ⟨fun i m H => m = n - i ∧ i ≤ n ∧ Pv i H, ⟨n, by simp, Nat.zero_le _, h0⟩, ?_⟩
  rintro i m H ⟨rfl, hi, p⟩
  have q := hG i H hi p
  by_cases hlt : i < n
  · refine .inr ⟨w.goes i H hlt q, Pv (i + 1), fun H' p' => ⟨n - (i + 1), by omega, rfl, hlt, p'⟩, fun x H' y => hs i x H H' hlt p (w.yields i H x H' hlt q y)⟩
  · have e : i = n := by omega
    subst e
    exact .inl ⟨w.stops H q, hd H p⟩
/-- {k: v} -/
theorem pe_dict1 {X : Cx} {k v : Expr} {tk tv : TE} {pos : Pos} (hk : PE X k tk) (hv : PE X v tv) : PE X (.Dict [some k] [v] pos) (tDisp [(tk, tv)]) :=
  pe_disp (pps_cons hk hv pps_nil) rfl rfl (by simp) (by simp)
theorem pi_tupK {X : Cx} (K : PySem.W.Frag) {tg l : Expr} {tl : TE} (hl : PE X l tl) (h : X.K = K := by rfl) : PI X tg l (iTup K tl) := by
  subst h
  exact pi_tup hl
end RU

/-! ### rows of a tree -/
namespace TR
open PySem PySem.Spec PyProof.Rows L2 HX
def kidsF {m : Nat} (F : List (Tr (m + 1))) : List (Tr m) := F.flatMap Tr.kids
def rows : (m : Nat) → List (Tr m) → List (List Int)
  | 0, F => [F.map (num 0)]
  | m + 1, F => F.map (num (m + 1)) :: rows m (kidsF F)
theorem rows_cons : ∀ {m : Nat} (F : List (Tr m)), ∃ r, rows m F = F.map (num m) :: r
  | 0, _ => ⟨[], rfl⟩
  | _ + 1, _ => ⟨_, rfl⟩
theorem flat_cons {α β : Type} (f : α → β) (g : α → List β) : ∀ F : List α, (F.flatMap fun t => f t :: g t).Perm (F.map f ++ F.flatMap g)
  | [] => .refl _
  | a :: F => by
    rw [List.flatMap_cons, List.map_cons, List.flatMap_cons, List.cons_append, List.cons_append]
    refine List.Perm.cons _ ?_
    refine ((flat_cons f g F).append_left (g a)).trans ?_
    rw [← List.append_assoc, ← List.append_assoc]
    exact (List.perm_append_comm).append_right _
theorem rows_perm : ∀ {m : Nat} (F : List (Tr m)), (rows m F).flatten.Perm (F.flatMap (nums m))
  | 0, F => by
    have e : F.flatMap (nums 0) = F.map (num 0) := by
      have : nums 0 = fun t => [num 0 t] := rfl
      rw [this]
      induction F with
      | nil => rfl
      | cons a F ih => rw [List.flatMap_cons, ih]; rfl
    rw [e]
    show ([F.map (num 0)] : List (List Int)).flatten.Perm _
    rw [List.flatten_cons, List.flatten_nil, List.append_nil]
  | m + 1, F => by
    have e : F.flatMap (nums (m + 1)) = F.flatMap (fun t => num (m + 1) t :: t.kids.flatMap (nums m)) := rfl
    rw [e]
    refine List.Perm.trans ?_ (flat_cons _ _ F).symm
    show (F.map (num (m + 1)) :: rows m (kidsF F)).flatten.Perm _
    rw [List.flatten_cons]
    refine List.Perm.append_left _ ((rows_perm (kidsF F)).trans ?_)
    unfold kidsF
    rw [List.flatMap_assoc]
theorem rows_last : ∀ {m : Nat} (F : List (Tr m)), (rows m F).getLast? = some (F.flatMap (lvs m))
  | 0, F => by
    have e : F.flatMap (lvs 0) = F.map (num 0) := by
      have : lvs 0 = fun t => [num 0 t] := rfl
      rw [this]
      induction F with
      | nil => rfl
      | cons a F ih => rw [List.flatMap_cons, ih]; rfl
    rw [e]
    rfl
  | m + 1, F => by
    obtain ⟨r, hr⟩ := rows_cons (kidsF F)
    have ih := rows_last (kidsF F)
    show (F.map (num (m + 1)) :: rows m (kidsF F)).getLast? = _
    rw [hr] at ih ⊢
    rw [List.getLast?_cons_cons, ih]
    unfold kidsF
    rw [List.flatMap_assoc]
    rfl
theorem rows_len : ∀ {m : Nat} (F : List (Tr m)), (rows m F).length = m + 1
  | 0, _ => rfl
  | m + 1, F => by
    show (rows m (kidsF F)).length + 1 = _
    rw [rows_len]
end TR

/-! ### repr of data; the promise of a def around which nothing is being shown -/
namespace RP
open PySem PySem.Spec PyProof.Rows L2 HX RZ
/-- data whose text is short: of weight n, depth k at most -/
structure Nice (d : PyData) (n k : Nat) : Prop where
  sh : d.showable = true
  nd : d.hasDict = false
  ls : d.leavesShort 13 = true
  wt : d.weight ≤ n
  dp : d.depth ≤ k
theorem Nice.le {d : PyData} {n k n' k' : Nat} (h : Nice d n k) (a : n ≤ n') (b : k ≤ k') : Nice d n' k' := ⟨h.sh, h.nd, h.ls, Nat.le_trans h.wt a, Nat.le_trans h.dp b⟩
theorem nice_int {i : Int} (h1 : -999999999999 ≤ i) (h2 : i ≤ 999999999999) : Nice (.int i) 40 0 := by
  have hl : i.natAbs.log2 < 40 := by
    by_cases z : i.natAbs = 0
    · rw [z]; decide
    · exact (Nat.log2_lt z).mpr (by omega)
  refine ⟨?_, rfl, ?_, ?_, Nat.le_refl 0⟩
  · show decide (i.natAbs.log2 < 1920) = true
    exact decide_eq_true (by omega)
  · show decide ((PyData.shown (.int i)).length ≤ 13) = true
    exact decide_eq_true (PyData.shown_int_le2 h1 h2)
  · show (if (i == 0) = true then 0 else i.natAbs.log2 + 1) ≤ 40
    split <;> omega
theorem nice_rows {n k : Nat} : ∀ {ds : List PyData}, (∀ d ∈ ds, Nice d n k) → PyData.showableAll ds = true ∧ PyData.hasDictAll ds = false ∧ PyData.leavesShortAll 13 ds = true ∧ PyData.weightAll ds ≤ ds.length * (n + 1) ∧ PyData.depthAll ds ≤ k
  | [], _ => ⟨rfl, rfl, rfl, Nat.zero_le _, Nat.zero_le _⟩
  | d :: ds, h => by
    have a := h d (List.mem_cons_self ..)
    obtain ⟨b1, b2, b3, b4, b5⟩ := nice_rows (n := n) (k := k) (ds := ds) fun x hx => h x (List.mem_cons_of_mem _ hx)
    refine ⟨?_, ?_, ?_, ?_, ?_⟩
    · show (d.showable && PyData.showableAll ds) = true
      rw [a.sh, b1]; rfl
    · show (d.hasDict || PyData.hasDictAll ds) = false
      rw [a.nd, b2]; rfl
    · show (d.leavesShort 13 && PyData.leavesShortAll 13 ds) = true
      rw [a.ls, b3]; rfl
    · show d.weight + 1 + PyData.weightAll ds ≤ (ds.length + 1) * (n + 1)
      have := a.wt
      rw [Nat.succ_mul]
      omega
    · show max d.depth (PyData.depthAll ds) ≤ k
      have := a.dp
      omega
theorem nice_tup {ds : List PyData} {n k m : Nat} (h : ∀ d ∈ ds, Nice d n k) (hm : ds.length * (n + 1) ≤ m) : Nice (.tuple ds) m (k + 1) := by
  obtain ⟨b1, b2, b3, b4, b5⟩ := nice_rows h
  exact ⟨b1, b2, b3, Nat.le_trans b4 hm, Nat.succ_le_succ b5⟩
theorem nice_lst {ds : List PyData} {n k m : Nat} (h : ∀ d ∈ ds, Nice d n k) (hm : ds.length * (n + 1) ≤ m) : Nice (.list ds) m (k + 1) := by
  obtain ⟨b1, b2, b3, b4, b5⟩ := nice_rows h
  exact ⟨b1, b2, b3, Nat.le_trans b4 hm, Nat.succ_le_succ b5⟩
structure NiceAll (ds : List PyData) (n k : Nat) : Prop where
  sh : PyData.showableAll ds = true
  nd : PyData.hasDictAll ds = false
  ls : PyData.leavesShortAll 13 ds = true
  wt : PyData.weightAll ds ≤ n
  dp : PyData.depthAll ds ≤ k
theorem NiceAll.nil {k : Nat} : NiceAll [] 0 k := ⟨rfl, rfl, rfl, Nat.le_refl 0, Nat.zero_le _⟩
theorem NiceAll.cons {d : PyData} {ds : List PyData} {a b k k' : Nat} (h : Nice d a k') (hs : NiceAll ds b k) (hk : k' ≤ k) : NiceAll (d :: ds) (a + 1 + b) k := by
  refine ⟨?_, ?_, ?_, ?_, ?_⟩
  · show (d.showable && PyData.showableAll ds) = true
    rw [h.sh, hs.sh]; rfl
  · show (d.hasDict || PyData.hasDictAll ds) = false
    rw [h.nd, hs.nd]; rfl
  · show (d.leavesShort 13 && PyData.leavesShortAll 13 ds) = true
    rw [h.ls, hs.ls]; rfl
  · show d.weight + 1 + PyData.weightAll ds ≤ a + 1 + b
    have := h.wt
    have := hs.wt
    omega
  · show max d.depth (PyData.depthAll ds) ≤ k
    have := h.dp
    have := hs.dp
    omega
theorem NiceAll.all {ds : List PyData} {n k m : Nat} (h : ∀ d ∈ ds, Nice d n k) (hm : ds.length * (n + 1) ≤ m) : NiceAll ds m k := by
  obtain ⟨b1, b2, b3, b4, b5⟩ := nice_rows h
  exact ⟨b1, b2, b3, Nat.le_trans b4 hm, b5⟩
theorem NiceAll.tup {ds : List PyData} {n k : Nat} (h : NiceAll ds n k) : Nice (.tuple ds) n (k + 1) := ⟨h.sh, h.nd, h.ls, h.wt, Nat.succ_le_succ h.dp⟩
theorem NiceAll.lst {ds : List PyData} {n k : Nat} (h : NiceAll ds n k) : Nice (.list ds) n (k + 1) := ⟨h.sh, h.nd, h.ls, h.wt, Nat.succ_le_succ h.dp⟩
/-- of thirty bits -/
theorem nice_int30 {i : Int} (h1 : -1000000000 ≤ i) (h2 : i ≤ 1000000000) : Nice (.int i) 30 0 := by
  have a := nice_int (i := i) (by omega) (by omega)
  refine ⟨a.sh, a.nd, a.ls, ?_, a.dp⟩
  show (if (i == 0) = true then 0 else i.natAbs.log2 + 1) ≤ 30
  split
  · omega
  · have hl : i.natAbs.log2 < 30 := by
      by_cases z : i.natAbs = 0
      · rw [z]; decide
      · exact (Nat.log2_lt z).mpr (by omega)
    omega
theorem nice_bool (b : Bool) : Nice (.bool b) 0 0 := ⟨rfl, rfl, rfl, Nat.le_refl 0, Nat.le_refl 0⟩
theorem nice_none : Nice .none 0 0 := ⟨rfl, rfl, rfl, Nat.le_refl 0, Nat.le_refl 0⟩
theorem dpAll_of {K : PySem.W.Frag} {H : Hp} {β : Type} {R : V → β → Prop} {f : β → PyData} (h : ∀ x y, R x y → Dp K H x (f y)) : ∀ {xs : List V} {ys : List β}, Paired R xs ys → DpAll K H xs (ys.map f)
  | _, _, .nil => .nil
  | _, _, .cons r rs => .cons (h _ _ r) (dpAll_of h rs)
theorem nice_leaf : Nice (.str "leaf") 4 0 := ⟨rfl, rfl, by decide, by decide, Nat.le_refl 0⟩
theorem nice_node : Nice (.str "node") 4 0 := ⟨rfl, rfl, by decide, by decide, Nat.le_refl 0⟩
/-- repr(x), x data that stands in the heap; nothing is being shown around -/
theorem call_reprD {X : Cx} (hg : X.A.guards = some []) (hu : X.A.units + 64 < cLine) : CallR X (.builtin "repr") (fun xs H Q => ∃ (a : Addr) (d : PyData) (n : Nat), xs = [.ref a] ∧ Dp X.K H (.ref a) d ∧ Nice d n 50 ∧ n ≤ 2 ^ 20 ∧ Q (.str d.shown) H) := by
  intro pins s σ H xs us Q I r h
  obtain ⟨a, d, n, rfl, hd, hn, hl, q⟩ := h
  obtain ⟨u, rfl, rx⟩ := vals1 r
  obtain rfl : u = Value.ref a := rx
  obtain ⟨as, rr⟩ := Dp.reads I d _ _ hd (rfl : RelV (.ref a) (.ref a))
  refine repr_of_reads' rr hn.sh (PyData.noDict_hsm hn.nd) hg (by have := hn.dp; omega) (fun _ _ e => e) (fun h' t tk hk => ⟨.str d.shown, H, I.kept (t' := tk) hk, ⟨t, rfl⟩, q⟩) (PyData.shown_fits (B := 13) (by decide) (by decide) hn.ls (Nat.le_trans hn.wt hl))
/-- as FnOk, where nothing is being shown around -/
structure FnOkG (P : Program) (w : World) (K : PySem.W.Frag) (mg : Str → Option Value) (base : Heap) (CX : CXT) (k : Nat) (f : Addr) (fd : FuncData) (ps : List Str) (sp : Sp) : Prop where
  go : ∀ (Z : Around) (envs : List Env) (c : Shared) (G : Hp) (us : List Value) (vs : List V) (Q : VK) (E : XK) (as : Args), Z.guards = some [] → Room k Z → Env0 P w K mg base Z envs c G → BindsTo c fd as (ps.zip us) → Vals vs us → sp vs G Q E →
    codeAny (model P w) Z (.call (.ref f) as) (CR CX envs P w G c Q E) c
theorem okG {P : Program} {w : World} {K : PySem.W.Frag} {mg : Str → Option Value} {base : Heap} {CX : CXT} {x qual : Str} {pr : Arguments} {bd : List Stmt} {sc : Scope} {dvs : List V} {kws : List (Str × V)} {f : Addr} {fd : FuncData} {N ps : List Str} {k : Nat} {sp : Sp}
    (F : FunD K x qual pr bd sc dvs kws f fd) (S : FnScope N ps sc) (len : ∀ vs H Q E, sp vs H Q E → vs.length = ps.length)
    (hb : ∀ (cdv : Value) (Z : Around) (envs : List Env) (c : Shared) (G : Hp) (vs : List V) (Q : VK) (E : XK), Z.guards = some [] → Room k (Z.deeper (envOfC qual sc c.heap.objs.size f cdv)) → sp vs G Q E →
      ∃ t, PSs (cxOf CX P w K mg base N qual sc f cdv Z envs c G E) bd t ∧ t { nx := fun _ G' => Q .non G', rt := Q } (start N vs) G) : FnOkG P w K mg base CX (k + 1) f fd ps sp := by
  obtain ⟨oc, od, dV, kV, doc, pm, an, cdv, ct, osl, rfl, lk, hcd, _, _⟩ := F.ex
  constructor
  intro Z envs c G us vs Q E as hz hr e0 hbt rel hsp
  have n0 := len _ _ _ _ hsp
  have kp : ∀ b o, base.get? b = some o → c.heap.get? b = some o := fun b o e => (e0.bs b o e).1
  have hK : K.In c.heap := e0.mod.kin.keeps kp
  have nl : c.heap.NoLimit := e0.mod.nolimit.keeps kp
  refine codeAny_call_function hr.depth (hK _ _ lk) rfl S.co S.gen rfl (PySem.W.codeRec_of hK hcd) (hbt _ _ _ _ ?_)
  refine wpAny_newFunctionEnv_cells S.kind ?_ ?_
  · rintro ⟨n, v⟩ hy
    rcases S.par n (List.of_mem_zip hy).1 with q | q
    · exact .inl q
    · exact .inr ⟨q, PySem.W.cellsFrom_some _ _ _ (.inl q)⟩
  intro env he c1 xx
  subst he
  refine ⟨nl.keeps xx.toInCall.keep, codeAny_func ?_⟩
  obtain ⟨t, ht, hq⟩ := hb cdv Z envs c G vs Q E hz (hr.deeper _) hsp
  refine wpAny_mono (ht.run [] c1 (start N vs) G _ (inv_start S hr.hd e0 n0 rel xx) hq) ?_ fun e c' z => z
  intro fl c' z
  match fl, z with
  | .ret u, ⟨v, σ', G', J, rv, q⟩ => exact ⟨v, G', J.os, J.bare, J.base, J.hok, rv, q⟩
  | .next, ⟨σ', G', J, q⟩ => exact ⟨V.non, G', J.os, J.bare, J.base, J.hok, rfl, q⟩
  | .brk, ⟨_, _, _, q⟩ => exact False.elim q
  | .cont, ⟨_, _, _, q⟩ => exact False.elim q
end RP

/-! ### the end of a law for a def around which nothing is being shown -/
namespace RP
open PySem PySem.Spec PyProof.Rows L2 HX RZ
theorem law_goes {P : Program} {w : World} {K : PySem.W.Frag} {mg mb : Str → Option Value} {k : Nat} {fa a : Addr} {fd : FuncData} {x : Str} {sp : Sp} {c : Shared} {us : List Value} {ns : List Int}
    (hK : K.In c.heap) (hm : c.heap.Ns mainGlobals mg) (hb : c.heap.Ns builtinsNs mb) (hbb : ∀ x : Str, x ≠ "__name__" → mb x = bootBuiltins x) (nl : c.heap.NoLimit) (ng : c.gens = #[])
    (ha : c.heap.get? a = some { cls := .type "list", data := .seq us.toArray }) (hi : IntsAre us ns) (hl : ns.length ≤ sizeLine) (hr : Room k callerA)
    (F : ∀ base : Heap, K.In base → base.Ns mainGlobals mg → FnOkG P w K mg base CX0 k fa fd [x] sp) (hbind : ∀ (s : Shared) (u : Value), BindsTo s fd ⟨[u], []⟩ [(x, u)])
    (hsp : ∀ G : Hp, Only G → SqL K G a (ns.map V.int) → sp [.ref a] G (fun v _ => v = .bl true) fun _ _ _ => False) :
    codeAny (model P w) callerA (.call (.ref fa) ⟨[.ref a], []⟩) (fun r c' => r = .ok (.ret (.bool true)) ∧ OldK c.heap c'.heap ∧ c'.os = c.os ∧ AllBare c'.gens) c := by
  have rv := vals_ints hi
  have main : ∀ G : Hp, Only G → SqL K G a (ns.map V.int) → HOk P w G c.heap → (∀ b, G b ≠ none → b = a) → (G a ≠ none → K.lookup a = none) →
      codeAny (model P w) callerA (.call (.ref fa) ⟨[.ref a], []⟩) (fun r c' => r = .ok (.ret (.bool true)) ∧ OldK c.heap c'.heap ∧ c'.os = c.os ∧ AllBare c'.gens) c := by
    intro G hO hS hok only own
    have away : ∀ {b : Addr}, b ≠ a → G b = none := fun {b} n => by
      rcases z : G b with _ | u
      · rfl
      · exact (n (only b (by rw [z]; exact nofun))).elim
    have ns0 : ∀ {b : Addr} {m : Str → Option Value}, c.heap.Ns b m → (hidT c.heap G).Ns b m := by
      rintro b m ⟨o, es, ep, e, d, r⟩
      refine ⟨o, es, ep, hidT_get e (away ?_), d, r⟩
      rintro rfl
      rw [ha] at e
      cases e
      exact nomatch d
    have kin : K.In (hidT c.heap G) := by
      intro b o e
      refine hidT_get (hK b o e) ?_
      rcases z : G b with _ | u
      · rfl
      · have n : G b ≠ none := by rw [z]; exact nofun
        have e' := only b n
        subst e'
        rw [own n] at e
        exact nomatch e
    have hM : Mod K mg (hidT c.heap G) := by
      obtain ⟨mc, q1, q2⟩ := nl
      exact ⟨kin, ns0 hm, ⟨mb, ns0 hb, hbb⟩, ⟨mc, ns0 q1, q2⟩⟩
    have e0 : Env0 P w K mg (hidT c.heap G) callerA [] c G := ⟨rfl, hM, fun b o e => of_hidT e, Nat.le_of_eq (hidT_size _ _), trivial, (fun b q => nomatch q), hok, .of_eq ng⟩
    refine codeAny_mono ((F _ kin (ns0 hm)).go callerA [] c G [.ref a] [.ref a] _ _ _ rfl hr e0 (hbind c (.ref a)) (.cons rfl .nil) (hsp G hO hS)) ?_
    intro r c' z
    match r, z with
    | .error _, z => exact False.elim (by simpa [CR, CX0] using z)
    | .ok (.ret u), ⟨v, G', os, bare, un, hok', r', q⟩ =>
      obtain rfl : v = .bl true := q
      obtain rfl : u = Value.bool true := r'
      refine ⟨rfl, OldK.of_keep ?_, os, bare⟩
      intro b o e
      rcases z : G b with _ | u
      · exact un.keep b o e z nofun nofun
      · rcases hO b with y | ⟨ob, xs, y⟩
        · rw [z] at y
          cases y
        · obtain ⟨e1, _⟩ := hok b _ y
          obtain ⟨e2, _⟩ := hok' b _ (un.frzs b ob _ y)
          rw [e] at e1
          cases e1
          exact e2
  rcases hk : K.lookup a with _ | o
  · refine main (fun b => if b = a then some (.frz { cls := .type "list", data := .seq us.toArray } (.lst (ns.map V.int))) else none) ?_ (.inl (.inr ⟨_, if_pos rfl⟩)) ?_ ?_ fun _ => hk
    · intro b
      by_cases e : b = a
      · exact .inr ⟨_, _, if_pos e⟩
      · exact .inl (if_neg e)
    · intro b u z
      by_cases e : b = a
      · have z' := (if_pos e).symm.trans z
        cases z'
        subst e
        exact ⟨ha, by rw [List.length_map]; exact hl, us, _, rv, ha⟩
      · exact nomatch (if_neg e).symm.trans z
    · intro b z
      by_cases e : b = a
      · exact e
      · exact absurd (if_neg e) z
  · have e := hK a o hk
    rw [ha] at e
    cases e
    have z := hi.length
    refine main (fun _ => none) (fun _ => .inl rfl) (.inr ⟨_, us.toArray, _, hk, rfl, rfl, rfl, ?_, by simpa using rv⟩) (fun b u z => nomatch z) (fun b z => absurd rfl z) fun z => absurd rfl z
    rw [List.size_toArray, z]
    exact hl
theorem walk_ofG {l : PySem.W.OpenLaw} {n k : Nat} {q : Program} {loose : List Str} {XP : (Str → Option Value) → Heap → Prop} {YP : World → Heap → Prop} {d : DefRec} {x : Str}
    (hn : l.most = some n) (hn2 : n ≤ sizeLine) (hdf : d.params.defaults = []) (hr : Room k callerA)
    (F : ∀ (w : World) (mg : Str → Option Value) (fa : Addr) (h : Heap), YP w h → h.Ns mainGlobals mg → mg d.name = some (.ref fa) → ∃ (K : PySem.W.Frag) (fd : FuncData) (sp : Sp), K.In h ∧ (∀ (s : Shared) (u : Value), BindsTo s fd ⟨[u], []⟩ [(x, u)]) ∧
      (∀ (G : Hp) (a : Addr) (ns : List Int), ns.length ≤ n → Only G → SqL K G a (ns.map V.int) → sp [.ref a] G (fun v _ => v = .bl true) fun _ _ _ => False) ∧ ∀ base : Heap, K.In base → base.Ns mainGlobals mg → FnOkG l.prog w K mg base CX0 k fa fd [x] sp) :
    PySem.W.WalkO q loose XP YP l.row.toRowW d [] (fun f vs => PySem.call f vs) := by
  refine Att.attach_call hn hdf ?_
  intro w c0 c mg mb fa o pm cd doc a us ns G Y ho hd hcd hmg hobj hints hlen hg
  obtain ⟨K, fd, sp, KX, hb, hsp, hF⟩ := F w mg fa _ Y G.T.g hmg
  exact law_goes KX G.T.g G.T.b G.T.builtins G.T.nolimit hg hobj hints (Nat.le_trans hlen hn2) hr hF hb (fun H hO hS => hsp H a ns hlen hO hS)
end RP

/-! ### a slice of a tuple, the whole of it too -/
namespace RU
open PySem PySem.Spec PyProof.Rows L2 HX RZ
def rSlU (K : PySem.W.Frag) : V → Option Int → Option Int → Hp → VK → Prop := fun x lo hi H Q => ∃ a xs, x = .ref a ∧ SqT K H a xs ∧ ∀ p H', Same H H' → SqT K H' p (cutV xs lo hi) → Q (.ref p) H'
theorem sl_tupU {X : Cx} : SlR X (rSlU X.K) := by
  intro pins s σ H x v vl vu lo hi sl Q I rx hs pl pu h
  obtain ⟨a, xs, rfl, hx, q⟩ := h
  refine sl_tupA pins s σ H _ v vl vu lo hi sl Q I rx hs pl pu ⟨a, xs, rfl, hx, fun ⟨w1, w2⟩ => q a H (Same.refl H) ?_, fun _ p hp => q p _ (same_new hp) (SqT.of upd_same)⟩
  unfold cutV
  rw [w1, w2, List.drop_zero, Nat.sub_zero, List.take_length]
  exact hx
end RU
/-! ### a tuple of written items, of which one knows that it has no dict -/
namespace RU
open PySem PySem.Spec PyProof.Rows L2 HX RZ
def tTupF (t : TA) : TE := fun σ H Q => t σ H fun xs H1 => xs.length ≤ sizeLine ∧ ∀ (p : Addr) (o : Obj), H1 p = none → o.dict = none → Q (.ref p) (upd H1 p (.frz o (.tup xs)))
theorem pe_tupF {X : Cx} {es : List Expr} {t : TA} {x1 : Nat} {pos : Pos} (h : PA X es t) : PE X (.Tuple es x1 pos) (tTupF t) := by
  refine ⟨fun pins s σ H Q I hq => ?_⟩
  refine wpAny_Tuple_spliced ?_
  refine thn (h.run pos pins s σ H _ I hq) ?_
  rintro us c ⟨xs, G, J, rel, few, go⟩
  refine ⟨by rw [← rel.length]; exact few, ?_⟩
  have free : G c.heap.objs.size = none := J.hok.fresh (Nat.le_refl _)
  have J2 : Inv X pins σ (upd G c.heap.objs.size (.frz { cls := .type "tuple", data := .seq us.toArray } (.tup xs))) { c with heap := c.heap.push { cls := .type "tuple", data := .seq us.toArray } } :=
    J.laid (t' := c.toks) (fun b u e => Heap.get?_push_of_some _ e) (Nat.le_refl _) (show ObjOk X.prog X.w _ _ _ (.frz _ (.tup xs)) from ⟨Heap.get?_push_size _ rfl, few, us, rel, _, Heap.get?_push_size _ rfl, rfl, _, rfl⟩)
  exact ⟨.ref c.heap.objs.size, _, J2, rfl, go _ _ free rfl⟩
end RU
/-! ### a part of a tuple, of which one knows that it has no dict -/
namespace RU
open PySem PySem.Spec PyProof.Rows L2 HX RZ
def rSlF (K : PySem.W.Frag) : V → Option Int → Option Int → Hp → VK → Prop := fun x lo hi H Q => ∃ a xs, x = .ref a ∧ SqT K H a xs ∧
  ¬ (HT.sIx xs.length 0 lo = 0 ∧ HT.sIx xs.length xs.length hi = xs.length) ∧ ∀ (p : Addr) (o : Obj), H p = none → o.dict = none → Q (.ref p) (upd H p (.frz o (.tup (cutV xs lo hi))))
theorem sl_tupF {X : Cx} : SlR X (rSlF X.K) := by
  rintro pins c σ G x v vl vu lo hi sl Q I rx hs pl pu ⟨a, xs, rfl, hx, nw, q⟩
  cases rx
  obtain ⟨its, r, ht, hz⟩ := I.tuple hx
  have e : its.toArray.size = xs.length := by
    rw [List.size_toArray]
    exact r.length.symm
  refine ⟨"tuple", _, PyProof.Rows.slot_tuple_getitem.lookup, ht.typeIs, ?_⟩
  refine HT.getItem_tuple_cut ht hs pl pu (by rw [e]; exact nw) ?_ (by rw [e]; exact hz)
  rw [e]
  have rel := (r.drop (HT.sIx xs.length 0 lo)).take (HT.sIx xs.length xs.length hi - HT.sIx xs.length 0 lo)
  let ob : Obj := { cls := .type "tuple", data := .seq (List.take (HT.sIx xs.length xs.length hi - HT.sIx xs.length 0 lo) (List.drop (HT.sIx xs.length 0 lo) its.toArray.toList)).toArray }
  refine ⟨.ref c.heap.objs.size, upd G c.heap.objs.size (.frz ob (.tup (cutV xs lo hi))), I.laid (t' := c.toks) (o := .frz ob (.tup (cutV xs lo hi))) (fun b u z => Heap.get?_push_of_some _ z) (Nat.le_refl _) ?_, rfl, q _ ob (I.hok.fresh (Nat.le_refl _)) rfl⟩
  exact ⟨Heap.get?_push_size _ rfl, Nat.le_trans (cutV_length xs lo hi) hz, _, rel, IsTup.new _ _⟩
end RU
/-! ### t.index(k), t a tuple of whole numbers -/
namespace RU
open PySem PySem.Spec PyProof.Rows L2 HX RZ
theorem mt_tindexI {X : Cx} : MtR X "tuple.index" (fun x xs H Q => ∃ (p : Addr) (ns : List Int) (k : Int), x = .ref p ∧ xs = [.int k] ∧ SqT X.K H p (ns.map V.int) ∧ k ∈ ns ∧ Q (.int (ns.idxOf k : Nat)) H) := by
  rintro pins c σ G x xs v us Q I rx rs ⟨p, ns, k, rfl, rfl, hq, hk, q⟩
  cases rx
  obtain ⟨u, rfl, t, rfl⟩ := vals1 rs
  obtain ⟨its, r, ⟨ob, ho, hc, n, hd⟩, hz⟩ := I.tuple hq
  obtain ⟨cls, dat, dd, sl⟩ := ob
  dsimp only at hc hd
  subst hc hd
  have hj := List.idxOf_lt_length_of_mem hk
  have sz : its.toArray.size = ns.length := by rw [List.size_toArray, ← r.length, List.length_map]
  have item : ∀ (m : Nat) (hm : m < its.toArray.size), ∃ y t', ns[m]? = some y ∧ its.toArray[m] = Value.int y t' := by
    intro m hm
    have hm2 : m < ns.length := by omega
    obtain ⟨w, hw, t', e⟩ := r.get (i := m) (x := .int ns[m]) (by simp [hm2])
    refine ⟨ns[m], t', List.getElem?_eq_getElem hm2, ?_⟩
    rw [← e]
    simpa using (List.getElem?_eq_some_iff.mp hw).2
  refine call_meets PySem.F.slot_tuple_index ⟨_, ho, rfl⟩ PySem.F.entry_tuple_index (PySem.F.args_tuple_index_2 _ _) (TI.tuple_indexAt p its.toArray n _ _ (.int k t) (eqU (.int k)) (ns.idxOf k) (by omega) ?_ ?_) ⟨ho, ?_, ⟨.int (ns.idxOf k : Nat), G, I.tok _, ⟨_, rfl⟩, q⟩⟩
  · obtain ⟨y, t', h1, h2⟩ := item (ns.idxOf k) (by omega)
    rw [h2]
    have e : ns[ns.idxOf k]? = some k := by
      rw [List.getElem?_eq_getElem hj]
      exact congrArg some (List.getElem_idxOf hj)
    rw [e] at h1
    cases h1
    exact beq_self_eq_true k
  · intro m hm hmj
    obtain ⟨y, t', h1, h2⟩ := item m hm
    rw [h2]
    refine beq_eq_false_iff_ne.mpr fun e => ?_
    subst e
    have z := List.not_of_lt_findIdx (p := (· == y)) (xs := ns) (i := m) hmj
    rw [(List.getElem?_eq_some_iff.mp h1).2] at z
    simp at z
  · intro w hw
    exact mem_eqAt (x := .int k) ⟨t, rfl⟩ rfl r (by rw [List.all_map]; exact List.all_eq_true.mpr fun _ _ => rfl) w (by simpa using hw)
end RU
/-! ### a method of a tuple, of which one knows that it has no dict -/
namespace RU
open PySem PySem.Spec PyProof.Rows L2 HX RZ
def tBMF (r : V → List V → Hp → VK → Prop) (to : TE) (t : TA) : TE := fun σ H Q => to σ H fun x H1 => (∃ (a : Addr) (ob : Obj) (xs : List V), x = .ref a ∧ H1 a = some (.frz ob (.tup xs)) ∧ ob.dict = none) ∧ t σ H1 fun vs H2 => r x vs H2 Q
theorem pe_bmF {X : Cx} {name id : String} {r : V → List V → Hp → VK → Prop} {o e : Expr} {es : List Expr} {apos cpos : Pos} {to : TE} {t : TA} (slot : Slot "tuple" name id) (hty : typeOf (.builtin id) = pure (.type "method_descriptor")) (hm : MtR X id r) (ho : PE X o to) (ha : PA X (e :: es) t)
    (hb : attributeBase o name X.env (eval o X.env) = eval o X.env := by rfl)
    (hf : ((backTo cpos (starEach (e :: es) X.env)).all (fun x => !x.1) && (backToKw cpos (keywordEach [] X.env)).all (fun x => x.1.isSome) && decide ((e :: es).length + ([] : List Keyword).length + (if ([] : List Keyword).isEmpty then 0 else 1) < 30)) = true := by rfl)
    (hl : (apos.endLine == cpos.line) = true := by rfl) (hs : starEach (e :: es) X.env = (false, eval e X.env) :: starEach es X.env := by rfl) (hp : (backTo cpos (starEach es X.env)).any (·.1) = false := by rfl) :
    PE X (.Call (.Attribute o name apos) (e :: es) [] cpos) (tBMF r to t) := by
  refine ⟨fun pins c σ G Q I h => ?_⟩
  refine wpAny_Call_method_late hb hf hl rfl ?_
  refine thn (ho.run pins c σ G _ I h) ?_
  rintro v c1 ⟨x, G1, J, rx, ⟨a, ob, xs, rfl, hx, hd⟩, q⟩
  cases rx
  obtain ⟨hg, _, its, _, tp⟩ := J.hok a _ hx
  refine ⟨"tuple", id, PySem.F.plainAttrs_tuple, slot, hty, tp.typeIs, fun b z => ?_, ?_⟩
  · cases z
    exact ⟨ob, hg, hd⟩
  have run := ha.run cpos pins c1 σ G1 _ J q
  rw [hs] at run ⊢
  refine Calls.callWith_builtin ?_ (Calls.evalArgs_plain ?_)
  · show (false || (backTo cpos (starEach es X.env)).any (·.1)) = false
    rw [hp]
    rfl
  · exact thn run fun us c2 ⟨vs, G2, J2, r2, q2⟩ => hm pins c2 σ G2 (.ref a) vs _ us Q J2 rfl r2 q2
end RU
/-! ### t + u, t not empty: a new tuple, of which one knows that it has no dict, or t itself -/
namespace RU
open PySem PySem.Spec PyProof.Rows L2 HX RZ
def rCatF (K : PySem.W.Frag) : R2 := fun x y H Q => ∃ a b xs ys, x = .ref a ∧ y = .ref b ∧ SqT K H a xs ∧ SqT K H b ys ∧ xs ≠ [] ∧ xs.length + ys.length ≤ sizeLine ∧
  (ys = [] → Q (.ref a) H) ∧ (ys ≠ [] → ∀ (p : Addr) (o : Obj), H p = none → o.dict = none → Q (.ref p) (upd H p (.frz o (.tup (xs ++ ys)))))
theorem op_catF {X : Cx} : OpR X (binaryOp .Add) (rCatF X.K) := by
  intro pins s σ H x y v u Q I rx ry h
  obtain ⟨a, b, xs, ys, rfl, rfl, ha, hb, hx, hz, q1, q2⟩ := h
  cases rx
  cases ry
  obtain ⟨its, r1, p1, _⟩ := I.tuple ha
  obtain ⟨its2, r2, p2, _⟩ := I.tuple hb
  refine HT.cat_tup p1 p2 (fun z => hx (r1.nil_iff.mp z)) (fun z => ⟨.ref a, H, I, rfl, q1 (r2.nil_iff.mp z)⟩) (fun z => ?_) (by rw [← r1.length, ← r2.length]; exact hz)
  let ob : Obj := { cls := .type "tuple", data := .seq (its ++ its2).toArray }
  refine ⟨.ref s.heap.objs.size, upd H s.heap.objs.size (.frz ob (.tup (xs ++ ys))), I.laid (t' := s.toks) (o := .frz ob (.tup (xs ++ ys))) (fun b ob q => Heap.get?_push_of_some _ q) (Nat.le_refl _) ?_, rfl, q2 (fun w => z (r2.nil_iff.mpr w)) _ ob (I.hok.fresh (Nat.le_refl _)) rfl⟩
  exact ⟨Heap.get?_push_size _ rfl, by rw [List.length_append]; exact hz, _, r1.append r2, IsTup.new _ _⟩
/-- a part of a tuple: a new one, told as one likes -/
theorem sl_tupV {X : Cx} : SlR X (fun x lo hi H Q => (∃ a xs, x = .ref a ∧ SqT X.K H a xs ∧ ¬ (HT.sIx xs.length 0 lo = 0 ∧ HT.sIx xs.length xs.length hi = xs.length) ∧ ∀ p, H p = none → Q (.ref p) (upd H p (.tup (cutV xs lo hi)))) ∨ rSlF X.K x lo hi H Q) := by
  rintro pins c σ G x v vl vu lo hi sl Q I rx hs pl pu (h | h)
  · exact sl_tup pins c σ G x v vl vu lo hi sl Q I rx hs pl pu h
  · exact sl_tupF pins c σ G x v vl vu lo hi sl Q I rx hs pl pu h
end RU
/-! ### sums of tuples, told alike whatever part is empty -/
namespace RU
open PySem PySem.Spec PyProof.Rows L2 HX RZ
def rCatG (K : PySem.W.Frag) : R2 := fun x y H Q => ∃ a b xs ys o, x = .ref a ∧ y = .ref b ∧ H a = some (.frz o (.tup xs)) ∧ o.dict = none ∧ SqT K H b ys ∧ xs ≠ [] ∧ xs.length + ys.length ≤ sizeLine ∧
  ∀ (p : Addr) (o : Obj) (H' : Hp), Same H H' → H' p = some (.frz o (.tup (xs ++ ys))) → o.dict = none → Q (.ref p) H'
theorem op_catG {X : Cx} : OpR X (binaryOp .Add) (rCatG X.K) := by
  intro pins s σ H x y v u Q I rx ry h
  obtain ⟨a, b, xs, ys, o, rfl, rfl, ha, ho, hb, hx, hz, q⟩ := h
  refine op_catF pins s σ H _ _ v u Q I rx ry ⟨a, b, xs, ys, rfl, rfl, .inl (.inr ⟨o, ha⟩), hb, hx, hz, fun z => q a o H (Same.refl H) (by rw [z, List.append_nil]; exact ha) ho, fun _ p o2 hp ho2 => q p o2 _ (same_new hp) upd_same ho2⟩
def rCatR (K : PySem.W.Frag) : R2 := fun x y H Q => ∃ a b xs ys, x = .ref a ∧ y = .ref b ∧ SqT K H a xs ∧ H b = some (.tup ys) ∧ ys ≠ [] ∧ xs.length + ys.length ≤ sizeLine ∧
  ∀ (p : Addr) (H' : Hp), Same H H' → H' p = some (.tup (xs ++ ys)) → Q (.ref p) H'
theorem op_catR {X : Cx} : OpR X (binaryOp .Add) (rCatR X.K) := by
  intro pins s σ H x y v u Q I rx ry h
  obtain ⟨a, b, xs, ys, rfl, rfl, ha, hb, hy, hz, q⟩ := h
  refine op_catA pins s σ H _ _ v u Q I rx ry ⟨a, b, xs, ys, rfl, rfl, ha, SqT.of hb, hz, fun z => q b H (Same.refl H) (by rw [z]; exact hb), fun _ z => (hy z).elim, fun _ _ p hp => q p _ (same_new hp) upd_same⟩
def rCatL (K : PySem.W.Frag) : R2 := fun x y H Q => ∃ a b xs ys, x = .ref a ∧ y = .ref b ∧ H a = some (.tup xs) ∧ SqT K H b ys ∧ xs ≠ [] ∧ xs.length + ys.length ≤ sizeLine ∧
  ∀ (p : Addr) (H' : Hp), Same H H' → H' p = some (.tup (xs ++ ys)) → Q (.ref p) H'
theorem op_catL {X : Cx} : OpR X (binaryOp .Add) (rCatL X.K) := by
  intro pins s σ H x y v u Q I rx ry h
  obtain ⟨a, b, xs, ys, rfl, rfl, ha, hb, hx, hz, q⟩ := h
  refine op_catA pins s σ H _ _ v u Q I rx ry ⟨a, b, xs, ys, rfl, rfl, SqT.of ha, hb, hz, fun z => (hx z).elim, fun _ z => q a H (Same.refl H) (by rw [z, List.append_nil]; exact ha), fun _ _ p hp => q p _ (same_new hp) upd_same⟩
end RU
/-! ### == and != of data, the fragment named -/
namespace RU
open PySem PySem.Spec PyProof.Rows L2 HX RZ
theorem eqDK {X : Cx} (K : PySem.W.Frag) (hu : X.A.units + 64 < cLine) (h : X.K = K := by rfl) : OpR X (compareOp .Eq) (rEqD K) := h ▸ op_eqD hu
theorem neDK {X : Cx} (K : PySem.W.Frag) (hu : X.A.units + 64 < cLine) (h : X.K = K := by rfl) : OpR X (compareOp .NotEq) (rNeD K) := h ▸ op_neD hu
end RU

namespace RP
open PySem PySem.Spec PyProof.Rows L2 RZ HX
/-- repr of a truth -/
theorem call_reprBl {X : Cx} : CallR X (.builtin "repr") (fun xs H Q => ∃ b : Bool, xs = [.bl b] ∧ Q (.str (if b then "True" else "False")) H) := by
  intro pins s σ H xs us Q I r h
  obtain ⟨b, rfl, q⟩ := h
  obtain ⟨u, rfl, rx⟩ := vals1 r
  obtain rfl : u = Value.bool b := rx
  exact PySem.P.repr_of_bool ⟨.str (if b then "True" else "False"), H, I.tok _, ⟨_, rfl⟩, q⟩
end RP

/-! ### set(xs) of a list of whole numbers -/
namespace RU
open PySem PySem.Spec PyProof.Rows L2 HX RZ
section
variable {P : Program} {w : World} {A : Around} {E : Value → Shared → Prop} {s : Shared}
/-- the object of a set just made -/
abbrev newSet (w : World) : Obj := { cls := .type "set", dict := none, data := .set #[] 0 (.fresh 0 0 (!w.params.followText "set-order")) }
set_option maxRecDepth 100000 in
set_option maxHeartbeats 3200000 in
theorem set_ints {l : Addr} {its : Array Value} (ks : List Int) {Q : Value → Shared → Prop} (nh : A.handled = none) (il : s.heap.IsList l its) (ii : IntsAre its.toList ks) (few : ks.length + 1 < scanBound)
    (go : ∀ (g : Heap) (tk c : Nat), SetR w g s.heap.objs.size (fun j => decide (j ∈ ks)) c → c ≤ ks.length → (∀ b o, s.heap.get? b = some o → g.get? b = some o) → Q (.ref s.heap.objs.size) { s with heap := g, toks := tk }) :
    wpAny (model P w) A (call (.type "set") [.ref l]) Q E s := by
  have sz : its.size = ks.length := (Array.length_toList (xs := its)).symm.trans (IntsAre.length ii)
  obtain ⟨cm, tm, mro⟩ := F.called_set.mro
  have made := F.called_set.made; have subs := F.called_set.sub
  refine wpAny_call (codeAny_of_tree ?_); show wpAny _ _ (callAny (.type "set") _) _ _ _
  refine wpAny_pure ⟨Code.quiet_builtin _ (by decide +kernel), codeAny_builtin PySem.F.entry_type_call ?_⟩; rw [Around.under_plain (weight_type_call_type "set" [.ref l] []) rfl]
  have f1 := F.called_set.notType; have f2 := F.called_set.canCreate; have f3 := F.typeCall_set_1 (.ref l)
  repeat (any_goals (first | assumption | wp_step))
  refine codeAny_mono (code_set_led1 (.ref l) (E := E) (Q₁ := fun u z => u = .ref s.heap.objs.size ∧ z = { s with heap := s.heap.push (newSet w) }) ⟨rfl, rfl⟩) fun r z hz => ?_
  match r, hz with
  | .error _, hz => exact hz
  | .ok (.ret u), hz =>
    obtain ⟨rfl, rfl⟩ := hz
    have at0 : (s.heap.push (newSet w)).get? s.heap.objs.size = some (newSet w) := Heap.get?_push_size _ rfl
    have isT : Shared.TypeIs { s with heap := s.heap.push (newSet w) } (.ref s.heap.objs.size) "set" := ⟨_, at0, rfl⟩
    have f4 := F.called_set.init.lookup; have f5 := F.called_set.init.bind (.ref s.heap.objs.size)
    repeat (any_goals (first | assumption | wp_step))
    refine codeAny_mono (codeAny_call_builtin (R := wants (fun r z => r = .none ∧ ∃ g tk c, z = { s with heap := g, toks := tk } ∧ SetR w g s.heap.objs.size (fun j => decide (j ∈ ks)) c ∧ c ≤ ks.length ∧
        (∀ b o, s.heap.get? b = some o → g.get? b = some o)) E) F.called_set.init.plain F.entry_set_init (check_set_init_1 isT ?_)) fun r2 z2 hz2 => ?_
    · obtain ⟨⟨oc, od, odat, osl⟩, hg, hc, nn, hd⟩ := il
      simp only at hc hd; subst hc; subst hd
      have hg' : (s.heap.push (newSet w)).get? l = some { cls := .type "list", dict := od, data := .seq its nn, slots := osl } := Heap.get?_push_of_some _ hg
      have u1 := F.sub_list_set; have u2 := F.sub_list_frozenset
      have u3 : (Value.type "list" == Value.type "dict") = false := by decide
      have il1 : (s.heap.push (newSet w)).IsList l its := ⟨_, hg', rfl, nn, rfl⟩
      unfold Builtin.«set.__init__» noKeywords Builtin.Frozenset.updateFrom; generalize hPy : pyIter = Py; wp_walk; subst hPy
      refine wpAny_pyIter_list il1 (wpAny_bind (wpAny_runValue ?_))
      have lt : l < s.heap.objs.size := Heap.lt_size hg
      have nh3 : A.in1.in1.in1.handled = none := by simp [nh]
      have ne : l ≠ (s.heap.push (newSet w)).objs.size := by rw [Heap.size_push]; exact Nat.ne_of_lt (Nat.lt_succ_of_lt lt)
      have nf : s.heap.objs.size ∉ [(s.heap.push (newSet w)).objs.size, l] := by
        rw [Heap.size_push]
        exact fun z => (List.mem_cons.mp z).elim (fun y => Nat.ne_of_lt (Nat.lt_succ_self _) y) fun y => Nat.ne_of_gt lt (List.mem_singleton.mp y)
      have vals : ∀ (i : Nat) (v : Value), its[i]? = some v → ∃ k t, ks[i]? = some k ∧ v = .int k t := fun i v hv => by
        have hi : i < ks.length := by rw [← sz]; exact (Array.getElem?_eq_some_iff.mp hv).1
        obtain ⟨t, e⟩ := IntsAre.int_at ii i v (by rw [Array.getElem?_toList]; exact hv)
        exact ⟨ks[i], t, List.getElem?_eq_getElem hi, by rw [e, List.getD_eq_getElem?_getD, List.getElem?_eq_getElem hi] <;> rfl⟩
      refine set_update_ints ((Walks.list nh3 _ l ne its).toS) s.heap.objs.size nf ks sz few vals (its.size - 0) 0 _ (by omega) (Nat.zero_le _) ⟨⟨_, Heap.get?_push_size _ rfl, rfl, rfl⟩, (il1.push _)⟩ ⟨0, Nat.le_refl 0, setR_new_at (Heap.get?_push_of_some _ at0)⟩ ?_
      rintro ⟨g, g2, d2, tk2, os2⟩ c mv hc2 hS
      obtain rfl : g2 = s.gens := mv.gens; obtain rfl : d2 = s.drawn := mv.drawn; obtain rfl : os2 = s.os := mv.os
      show wpAny _ _ _ _ _ _
      refine wpAny_pure ?_; show wpAny _ _ (ret Value.none) _ _ _
      rw [sz] at hc2
      refine wpAny_pure ⟨rfl, g, tk2, c, rfl, hS, hc2, fun b o e => ?_⟩
      have b0 := Heap.lt_size e
      exact mv.heap b o (by
        rw [Heap.size_push]
        exact fun z => (List.mem_cons.mp z).elim (fun y => Nat.ne_of_lt b0 y) fun y => Nat.ne_of_lt (Nat.lt_succ_of_lt b0) (List.mem_singleton.mp y)) (Heap.get?_push_of_some _ (Heap.get?_push_of_some _ e))
    · match r2, hz2 with
      | .error _, hz2 => exact hz2
      | .ok (.ret u2), hz2 =>
        obtain ⟨rfl, g, tk2, c, rfl, hS, hc2, keep⟩ := hz2
        repeat (any_goals (first | assumption | wp_step))
        exact go _ _ _ hS hc2 keep
end
section
variable {X : Cx}
def rSetL (K : PySem.W.Frag) (w : World) : List V → Hp → VK → Prop := fun xs H Q => ∃ (l : Addr) (ks : List Int), xs = [.ref l] ∧ SqL K H l (ks.map V.int) ∧ ks.length + 1 < scanBound ∧ ∀ (p : Addr) (c : Nat) (H' : Hp), c ≤ ks.length → Same H H' → H p = none → H' p = some (SetO w p (fun j => decide (j ∈ ks)) c) → Q (.ref p) H'
theorem call_setL (hc : X.calm = true) : CallR X (.type "set") (rSetL X.K X.w) := by
  intro pins s σ H xs us Q I r h
  obtain ⟨l, ks, rfl, hq, few, q⟩ := h
  rw [Vals.ref1 r]
  obtain ⟨its, rv, pl, hz⟩ := I.list hq
  refine set_ints ks (I.ok.hd hc) pl.isList (by simpa using ints_of_vals rv) few fun g tk c hS hc2 keep => ?_
  exact ⟨.ref s.heap.objs.size, _, I.laid (t' := tk) keep (Nat.le_refl _) (setO_new hS), rfl, q _ c _ hc2 (same_new (I.hok.fresh (Nat.le_refl _))) (I.hok.fresh (Nat.le_refl _)) upd_same⟩
/-- sorted(set) -/
def rSortSet (w : World) : List V → Hp → VK → Prop := fun vs H Q => ∃ (a : Addr) (S : Int → Bool) (n : Nat), vs = [V.ref a] ∧ H a = some (SetO w a S n) ∧ n < 64 ∧
  ∀ (ns : List Int) (p : Addr) (H' : Hp), ns.Pairwise (· < ·) → (∀ k : Int, k ∈ ns ↔ S k = true) → ns.length = n → Same H H' → H p = none → H' p = some (.lst (ns.map V.int)) → Q (.ref p) H'
theorem cr_sortedSetO (hc : X.calm = true) : CallR X (.builtin "sorted") (rSortSet X.w) := fun pins s σ H vs us Q I r ⟨a, S, n, e, ha, hn, q⟩ =>
  cr_sortedSet hc pins s σ H vs us Q I r ⟨a, S, n, e, ha, hn, fun ns p h1 h2 h3 hp => q ns p _ h1 h2 h3 (same_new hp) hp upd_same⟩
end
end RU
/-! ### t + u, tuples, whatever part is empty -/
namespace RU
open PySem PySem.Spec PyProof.Rows L2 HX RZ
def rCatS (K : PySem.W.Frag) : R2 := fun x y H Q => ∃ a b xs ys, x = .ref a ∧ y = .ref b ∧ SqT K H a xs ∧ SqT K H b ys ∧ xs.length + ys.length ≤ sizeLine ∧ ∀ (p : Addr) (H' : Hp), Same H H' → SqT K H' p (xs ++ ys) → Q (.ref p) H'
theorem op_catS {X : Cx} : OpR X (binaryOp .Add) (rCatS X.K) := by
  intro pins s σ H x y v u Q I rx ry h
  obtain ⟨a, b, xs, ys, rfl, rfl, ha, hb, hz, q⟩ := h
  refine op_catA pins s σ H _ _ v u Q I rx ry ⟨a, b, xs, ys, rfl, rfl, ha, hb, hz, fun z => q b H (Same.refl H) (by rw [z]; exact hb), fun _ z => q a H (Same.refl H) (by rw [z, List.append_nil]; exact ha), fun _ _ p hp => q p _ (same_new hp) (SqT.of upd_same)⟩
end RU
/-! ### new things, the heap behind not written out -/
namespace RU
open PySem PySem.Spec PyProof.Rows L2 HX RZ
def FzT (H : Hp) (a : Addr) (xs : List V) : Prop := ∃ o : Obj, H a = some (.frz o (.tup xs)) ∧ o.dict = none
section
variable {X : Cx} {es : List Expr} {t : TA} {pos : Pos}
def tTupS (t : TA) : TE := fun σ H Q => t σ H fun xs H1 => xs.length ≤ sizeLine ∧ ∀ (p : Addr) (H' : Hp), Same H1 H' → H1 p = none → FzT H' p xs → Q (.ref p) H'
theorem pe_tupS {x1 : Nat} (h : PA X es t) : PE X (.Tuple es x1 pos) (tTupS t) := by
  refine ⟨fun pins s σ H Q I hq => ?_⟩
  refine wpAny_Tuple_spliced ?_
  refine thn (h.run pos pins s σ H _ I hq) ?_
  rintro us c ⟨xs, G, J, rel, few, go⟩
  refine ⟨by rw [← rel.length]; exact few, ?_⟩
  have free : G c.heap.objs.size = none := J.hok.fresh (Nat.le_refl _)
  have J2 : Inv X pins σ (upd G c.heap.objs.size (.frz { cls := .type "tuple", data := .seq us.toArray } (.tup xs))) { c with heap := c.heap.push { cls := .type "tuple", data := .seq us.toArray } } :=
    J.laid (t' := c.toks) (fun b u e => Heap.get?_push_of_some _ e) (Nat.le_refl _) (show ObjOk X.prog X.w _ _ _ (.frz _ (.tup xs)) from ⟨Heap.get?_push_size _ rfl, few, us, rel, _, Heap.get?_push_size _ rfl, rfl, _, rfl⟩)
  exact ⟨.ref c.heap.objs.size, _, J2, rfl, go _ _ (same_new free) free ⟨_, upd_same, rfl⟩⟩
def tLstS (t : TA) : TE := fun σ H Q => t σ H fun xs H1 => xs.length ≤ sizeLine ∧ ∀ (p : Addr) (H' : Hp), Same H1 H' → H1 p = none → H' p = some (.lst xs) → Q (.ref p) H'
theorem pe_lstS (h : PA X es t) : PE X (.List es pos) (tLstS t) := by
  refine ⟨fun pins s σ H Q I hq => ?_⟩
  refine wpAny_List_spliced ?_
  refine thn (h.run pos pins s σ H _ I hq) ?_
  rintro us c ⟨xs, G, J, rel, few, go⟩
  refine ⟨by rw [← rel.length]; exact few, ?_⟩
  have free : G c.heap.objs.size = none := J.hok.fresh (Nat.le_refl _)
  exact ⟨.ref c.heap.objs.size, _, J.lnew (t' := c.toks) rel few, rfl, go _ _ (same_new free) free upd_same⟩
theorem op_catLS : OpR X (binaryOp .Add) (fun x y H Q => ∃ l b xs zs, x = .ref l ∧ y = .ref b ∧ H l = some (.lst xs) ∧ H b = some (.lst zs) ∧ xs.length + zs.length ≤ sizeLine ∧ ∀ (p : Addr) (H' : Hp), Same H H' → H p = none → H' p = some (.lst (xs ++ zs)) → Q (.ref p) H') :=
  fun pins s σ H x y v u Q I rx ry ⟨l, b, xs, zs, h1, h2, h3, h4, h5, q⟩ => op_cat pins s σ H x y v u Q I rx ry ⟨l, b, xs, zs, h1, h2, h3, h4, h5, fun p hp => q p _ (same_new hp) hp upd_same⟩
theorem sl_lstS : SlR X (fun x lo hi H Q => ∃ a xs, x = .ref a ∧ SqL X.K H a xs ∧ ∀ (p : Addr) (H' : Hp), Same H H' → H p = none → H' p = some (.lst (cutV xs lo hi)) → Q (.ref p) H') :=
  fun pins s σ H x v vl vu lo hi sl Q I rx hs pl pu ⟨a, xs, h1, h2, q⟩ => sl_list pins s σ H x v vl vu lo hi sl Q I rx hs pl pu ⟨a, xs, h1, h2, fun p hp => q p _ (same_new hp) hp upd_same⟩
theorem call_tupS : CallR X (.type "tuple") (fun xs H Q => ∃ p ys, xs = [.ref p] ∧ SqL X.K H p ys ∧ ∀ (l : Addr) (H' : Hp), Same H H' → H l = none → FzT H' l ys → Q (.ref l) H') :=
  fun pins s σ H xs us Q I r ⟨p, ys, h1, h2, q⟩ => call_tupF pins s σ H xs us Q I r ⟨p, ys, h1, h2, fun l o hl ho => q l _ (same_new hl) hl ⟨o, upd_same, ho⟩⟩
theorem call_lstS : CallR X (.type "list") (fun xs H Q => ∃ p ys, xs = [.ref p] ∧ (SqL X.K H p ys ∨ SqT X.K H p ys) ∧ ∀ (l : Addr) (H' : Hp), Same H H' → H l = none → H' l = some (.lst ys) → Q (.ref l) H') :=
  fun pins s σ H xs us Q I r ⟨p, ys, h1, h2, q⟩ => call_list_of pins s σ H xs us Q I r ⟨p, ys, h1, h2, fun l hl => q l _ (same_new hl) hl upd_same⟩
theorem call_dictS (hcalm : X.calm = true) : CallR X (.type "dict") (fun xs H Q => ∃ (a : Addr) (o : Obj) (ps : List Addr) (kvs : List (Key × V)), xs = [.ref a] ∧ H a = some (.frz o (.tup (ps.map V.ref))) ∧ o.dict = none ∧ Paired (fun p kv => SqT X.K H p [kV kv.1, kv.2]) ps kvs ∧
    ∀ (p : Addr) (H' : Hp), Same H H' → H p = none → H' p = some (.dK (mergeK [] kvs)) → Q (.ref p) H') :=
  fun pins s σ H xs us Q I r ⟨a, o, ps, kvs, h1, h2, h3, h4, q⟩ => call_dictT hcalm pins s σ H xs us Q I r ⟨a, o, ps, kvs, h1, h2, h3, h4, fun p hp => q p _ (same_new hp) hp upd_same⟩
end
end RU

/-! ### a call of a def that wants to know that nothing is being shown -/
namespace RP
open PySem PySem.Spec PyProof.Rows L2 HX RZ
section
variable {X : Cx} {CX : CXT} {k : Nat} {f : Addr} {fd : FuncData} {ps : List Str} {sp : Sp} {dvs : List V} {ds : List Value} {E : XK} {x : Str} {e : Expr} {es : List Expr} {t : TA} {p pos : Pos}
theorem pe_callG (F : FnOkG X.prog X.w X.K X.mg X.base CX k f fd ps sp) (len : ∀ vs H Q E, sp vs H Q E → vs.length = ps.length) (gd : X.A.guards = some []) (hr : Room k X.A) (hg : Gl X x) (hm : X.mg x = some (.ref f)) (hk : PySem.W.keepIn X.K (.ref f) = true) (hb : Binds X.K fd ps ds) (hd : Vals dvs ds) (hx : Passes CX X E)
    (ha : PA X (e :: es) t) (hdb : (x == ("__debug__" : Str)) = false := by decide) (he : starEach (e :: es) X.env = (false, eval e X.env) :: starEach es X.env := by rfl) (hpl : (backTo pos (starEach es X.env)).any (·.1) = false := by rfl) :
    PE X (.Call (.Name x p) (e :: es) [] pos) (tCall sp dvs E t) := by
  refine ⟨fun pins s σ H Q I h => wpAny_Call_Name_kw (ld_glob I hg hm ?_ hdb)⟩
  refine PySem.W.callWith_K (h₀ := X.base) I.ok.mod.kin hk (thn (ha.run pos pins s σ H _ I h) fun us c ⟨vs, G, J, r, q⟩ => ⟨J.kIn, ?_⟩) he hpl
  have rr : Vals (vs ++ dvs) (us ++ ds) := r.append hd
  have hl : (us ++ ds).length = ps.length := by rw [← rr.length]; exact len _ _ _ _ q
  refine wpAny_call (codeAny_mono (F.go X.A X.stack c G (us ++ ds) (vs ++ dvs) Q E ⟨us, []⟩ gd hr J.env0 (hb c us J.kIn hl) rr q) fun r c' z => ?_)
  match r, z with
  | .error e, z => exact hx pins σ G c e c' J z
  | .ok (.ret u), z => exact J.after z
theorem kw_only {n : Nat} {ks : List Str} {kws : List Keyword} {tk : TA} {g : List Value → List Value → List Value} {gV : List V → List V → List V} (F : FnOk X.prog X.w X.K X.mg X.base CX k f fd ps sp) (hr : Room k X.A) (hg : Gl X x) (hm : X.mg x = some (.ref f)) (hk : PySem.W.keepIn X.K (.ref f) = true) (hb : KBn X.K fd ps n ks g gV) (hx : Passes CX X E)
    (hkw : PK X kws tk) (hall : (backToKw pos (keywordEach kws X.env)).all (·.1.isSome) = true := by rfl) (hks : (backToKw pos (keywordEach kws X.env)).filterMap (·.1) = ks := by rfl) (hdb : (x == ("__debug__" : Str)) = false := by decide)
    (hpl : ((backTo pos (starEach [] X.env)).any (·.1) || (backToKw pos (keywordEach kws X.env)).any (·.1.isNone)) = false := by rfl) :
    PE X (.Call (.Name x p) [] kws pos) (tCallN n ks.length sp gV E tNil tk) := by
  refine ⟨fun pins s σ H Q I h => wpAny_Call_Name_kw (ld_glob I hg hm ?_ hdb)⟩
  refine PySem.W.callWith_KW0 (h₀ := X.base) I.ok.mod.kin hk hall ?_ hpl
  refine thn (hkw.run pos pins s σ H _ I h) fun ws c ⟨zs, G, J, rz, l1, l2, q⟩ => ⟨J.kIn, ?_⟩
  rw [hks]
  exact run_fnN (us := []) F hr hb hx J .nil rz l1 l2 q
end
theorem pi_lstK {X : Cx} (K : PySem.W.Frag) {tg l : Expr} {tl : TE} (hl : PE X l tl) (h : X.K = K := by rfl) : PI X tg l (iList K tl) := by
  subst h
  exact pi_list hl
/-- a walk over one thing or another -/
theorem pi_or {X : Cx} {tg l : Expr} {t1 t2 : TI} (h1 : PI X tg l t1) (h2 : PI X tg l t2) : PI X tg l (fun σ H R => t1 σ H R ∨ t2 σ H R) :=
  ⟨fun pins s σ H R I h => h.elim (h1.run pins s σ H R I) (h2.run pins s σ H R I)⟩
theorem pi_seq {X : Cx} {tg l : Expr} {tl : TE} (hl : PE X l tl) : PI X tg l (fun σ H R => iList X.K tl σ H R ∨ iTup X.K tl σ H R) := pi_or (pi_list hl) (pi_tup hl)
end RP

/-! ### sorted(d.items()), d a dict with whole numbers as keys and any values -/
namespace HS
open PySem PySem.Spec PyProof.Rows L2
section
variable {X : Cx}
abbrev entV (e : Int × V) : L2.Key × V := (Sum.inl e.1, e.2)
def rSortItV : List V → Hp → VK → Prop := fun vs H Q => ∃ (p a : Addr) (ks : List (Int × V)), vs = [.ref p] ∧ H p = some (DX.itemsO p a) ∧ H a = some (.dK (ks.map entV)) ∧
  ∀ (H' : Hp) (l : Addr) (ps : List (Addr × Int × V)), (∀ b o, H b = some o → H' b = some o) → H l = none → (ps.map (·.2)).Perm ks → (ps.map (·.2)).Pairwise (fun e f => e.1 < f.1) → H' l = some (.lst (ps.map fun z => V.ref z.1)) →
    (∀ z ∈ ps, H' z.1 = some (.tup [.int z.2.1, z.2.2])) → Q (.ref l) H'
theorem kv_atV : ∀ {ks : List (Int × V)} {vs : List (L2.Key × Value)}, KV (ks.map entV) vs → ∀ (j : Nat) (kv : L2.Key × Value), vs[j]? = some kv → ∃ e, ks[j]? = some e ∧ kv.1 = Sum.inl e.1 ∧ RelV e.2 kv.2
  | [], _, h, j, kv, q => by
    cases h
    simp at q
  | e :: ks, _, h, j, kv, q => by
    cases h with
    | cons r rs =>
      cases j with
      | zero =>
        have q' := Option.some.inj q
        obtain ⟨r1, r2⟩ := r
        exact ⟨e, rfl, by rw [← q']; exact r1.symm, by rw [← q']; exact r2⟩
      | succ j => exact kv_atV (ks := ks) rs j kv q
theorem cr_sortedItV (hc : X.calm = true) : CallR X (.builtin "sorted") rSortItV := by
  intro pins s σ H xs us Q I r h
  obtain ⟨p, a, ks, rfl, hp, ha, q⟩ := h
  obtain rfl := Vals.ref1 r
  have view : s.heap.IsItemsView p a := (show ObjOk X.prog X.w H s.heap p (DX.itemsO p a) from I.hok p _ hp).1
  obtain ⟨z, hd, vs', rel, o, es, ep, ho, hx, hdat, hko, hpairs, hnd⟩ := dk_of I.hok ha
  have l1 : (ks.map entV).length = vs'.length := Paired.length rel
  rw [List.length_map] at l1
  have l2 : es.size = vs'.length := by
    rw [← Pairs.length hpairs, Array.length_toList]
  rw [List.length_map] at z
  have hh : X.A.handled = none := I.ok.hd hc
  refine DT.sortedI (es := es) (ep := ep) hh view ⟨o, ho, hx, hdat⟩ (by omega) fun h' tk as hk hlt hl hG => ?_
  have lak : as.length = ks.length := by omega
  have nd : as.Nodup := List.Pairwise.imp (fun h => Nat.ne_of_lt h) hG.rise
  have pr : ∀ (j : Nat) (b : Addr), as[j]? = some b → ∃ (e : Int × V) (t : Tok) (v : Value), ks[j]? = some e ∧ RelV e.2 v ∧ h'.get? b = some { cls := .type "tuple", data := .seq #[Value.int e.1 t, v] } := by
    intro j b hj
    obtain ⟨en, he, hg⟩ := hG.pairs j b hj
    obtain ⟨kv, h1, h2, h3⟩ := pairs_at hpairs j en (by rw [Array.getElem?_toList]; exact he)
    obtain ⟨e, h4, h5, h6⟩ := kv_atV rel j kv h1
    rcases keyIs_shape h2 with ⟨i, t, e1, e2⟩ | ⟨i, t, e1, e2⟩
    · rw [h5] at e1
      cases e1
      rw [e2, h3] at hg
      exact ⟨e, t, kv.2, h4, h6, hg⟩
    · rw [h5] at e1
      cases e1
  have knd : (ks.map (·.1)).Nodup := by
    have e : vs'.map (·.1) = ks.map fun e => (Sum.inl e.1 : L2.Key) := by
      refine List.ext_getElem? fun j => ?_
      rw [List.getElem?_map, List.getElem?_map]
      cases hv : vs'[j]? with
      | none =>
        have : ks[j]? = none := List.getElem?_eq_none (by rw [l1]; exact List.getElem?_eq_none_iff.mp hv)
        rw [this]
        rfl
      | some kv =>
        obtain ⟨e, h4, h5, _⟩ := kv_atV rel j kv hv
        rw [h4]
        show some kv.1 = some _
        rw [h5]
    rw [e] at hnd
    exact List.pairwise_map.mpr (List.Pairwise.imp (fun {x y} h z => h (congrArg Sum.inl z)) (List.pairwise_map.mp hnd))
  have hob : (h'.push { cls := .type "list", data := .seq (as.map Value.ref).toArray }).get? h'.objs.size = some (seqObj "list" (as.map Value.ref).toArray 0) := Heap.get?_push_size _ rfl
  have kb : ∀ b o, s.heap.get? b = some o → (h'.push { cls := .type "list", data := .seq (as.map Value.ref).toArray }).get? b = some o := fun b o e => Heap.get?_push_of_some _ (hk b o e)
  have ne0 : ∀ b o, h'.get? b = some o → b ≠ h'.objs.size := fun b o e => Nat.ne_of_lt (Heap.lt_size e)
  generalize hh2 : h'.push { cls := .type "list", data := .seq (as.map Value.ref).toArray } = h2 at hob kb ⊢
  have ka : ∀ b o, h'.get? b = some o → h2.get? b = some o := fun b o e => by rw [← hh2]; exact Heap.get?_push_of_some _ e
  have at_ : ∀ v ∈ as.map Value.ref, ∃ (j : Nat) (b : Addr) (e : Int × V) (t : Tok) (u : Value), v = .ref b ∧ as[j]? = some b ∧ ks[j]? = some e ∧ h'.get? b = some { cls := .type "tuple", data := .seq #[Value.int e.1 t, u] } := by
    intro v hv'
    obtain ⟨b, hb, rfl⟩ := List.mem_map.mp hv'
    obtain ⟨j, hj⟩ := List.mem_iff_getElem?.mp hb
    obtain ⟨e, t, u, he, _, hg⟩ := pr j b hj
    exact ⟨j, b, e, t, u, rfl, hj, he, hg⟩
  have kf : ∀ (b : Addr) (e : Int × V) (t : Tok) (u : Value), h'.get? b = some { cls := .type "tuple", data := .seq #[Value.int e.1 t, u] } → kfI h' (.ref b) = e.1 := fun b e t u hg => kfI_of hg rfl
  have ent : ∀ v ∈ as.map Value.ref, IsEnt h2 v (kfI h' v) := by
    intro v hv
    obtain ⟨j, b, e, t, u, rfl, _, _, hg⟩ := at_ v hv
    exact ⟨b, _, t, u, 0, rfl, ka _ _ hg, rfl, by rw [kf b e t u hg]⟩
  have inj : ∀ v ∈ as.map Value.ref, ∀ u ∈ as.map Value.ref, kfI h' v = kfI h' u → v = u := by
    intro v hv u hu hvu
    obtain ⟨j, b, e, t, x1, rfl, j1, j2, hg⟩ := at_ v hv
    obtain ⟨i, c, f, t', x2, rfl, i1, i2, hg'⟩ := at_ u hu
    rw [kf b e t _ hg, kf c f t' _ hg'] at hvu
    have ej : (ks.map (·.1))[j]? = some e.1 := by rw [List.getElem?_map, j2]; rfl
    have ei : (ks.map (·.1))[i]? = some e.1 := by rw [List.getElem?_map, i2, hvu]; rfl
    have eij : j = i := (List.getElem?_inj (List.getElem?_eq_some_iff.mp ej).1 knd).mp (ej.trans ei.symm)
    subst eij
    rw [i1] at j1
    cases j1
    rfl
  refine wpAny_call_entry PyProof.Rows.slot_list_sort ⟨_, hob, rfl⟩ PyProof.Rows.entry_list_sort
    (SrtO.list_sort_ord (s := { s with heap := h2, toks := tk }) (swo_int (kfI h')) hob (by rw [List.length_map]; omega) (fun h2' => ents_sortable (s := { s with heap := h2, toks := tk }) (by omega) ent inj fun o e => ?_) fun out o1 o2 => ⟨.none, rfl, ?_⟩) (PyProof.Rows.args_list_sort _)
  · have e' : some o = some (seqObj "list" (as.map Value.ref).toArray 0) := e.symm.trans hob
    cases e'
    intro c
    exact absurd (Value.type.inj c) (by decide)
  · show EP X pins σ Q (.ref h'.objs.size) { s with heap := sortedHeap h2 h'.objs.size (as.map Value.ref) out.toArray, toks := tk }
    obtain ⟨zs, pz, ez⟩ := perm_lift (fun z : Addr × Int × V => Value.ref z.1) o2.perm (as.zip ks) (by
      rw [show (fun z : Addr × Int × V => Value.ref z.1) = Value.ref ∘ Prod.fst from rfl, ← List.map_map, List.map_fst_zip (by omega)])
    have idx : ∀ z ∈ zs, ∃ j : Nat, as[j]? = some z.1 ∧ ks[j]? = some z.2 := by
      intro z' hz'
      obtain ⟨j, hj⟩ := List.mem_iff_getElem?.mp (pz.mem_iff.mp hz')
      exact ⟨j, List.getElem?_zip_eq_some.mp hj⟩
    have hperm : (zs.map (·.2)).Perm ks := by
      have e := pz.map (·.2)
      have m2 : (as.zip ks).map (·.2) = ks := List.map_snd_zip (by rw [lak]; exact Nat.le_refl _)
      rw [m2] at e
      exact e
    have kz : ∀ z ∈ zs, kfI h' (.ref z.1) = z.2.1 := fun z hz => by
      obtain ⟨j, j1, j2⟩ := idx z hz
      obtain ⟨e, t, u, he, _, hg⟩ := pr j _ j1
      rw [kf _ e t u hg]
      rw [he] at j2
      cases j2
      rfl
    have hsort : (zs.map (·.2)).Pairwise (fun e f => e.1 < f.1) := by
      have le : (zs.map (·.2)).Pairwise (fun e f => e.1 ≤ f.1) := by
        have o1' : out.Pairwise (fun v u => decide (kfI h' u < kfI h' v) = false) := o1
        rw [← ez, List.pairwise_map] at o1'
        rw [List.pairwise_map]
        refine List.Pairwise.imp_of_mem (fun {x y} hx hy h => ?_) o1'
        have h2 := of_decide_eq_false h
        rw [kz x hx, kz y hy] at h2
        omega
      have ne : (zs.map (·.2)).Pairwise (fun e f => e.1 ≠ f.1) := by
        have n1 : ((zs.map (·.2)).map (·.1)).Nodup := (hperm.map (·.1)).nodup_iff.mpr knd
        exact List.pairwise_map.mp n1
      exact List.Pairwise.imp (fun {x y} h => by have := h.1; have := h.2; omega) (List.Pairwise.and le ne)
    have kF : ∀ b o, b ≠ h'.objs.size → h2.get? b = some o → (sortedHeap h2 h'.objs.size (as.map Value.ref) out.toArray).get? b = some o := fun b o hb e => (PyProof.Rows.sortedHeap_old hb (Heap.lt_size e)).trans e
    have kS : ∀ b o, s.heap.get? b = some o → (sortedHeap h2 h'.objs.size (as.map Value.ref) out.toArray).get? b = some o := fun b o e => kF b o (ne0 _ _ (hk b o e)) (kb b o e)
    obtain ⟨eF, heF⟩ := PyProof.Rows.sortedHeap_at (vs := as.map Value.ref) (out := out.toArray) hob
    have I1 : Inv X pins σ H { s with heap := sortedHeap h2 h'.objs.size (as.map Value.ref) out.toArray, toks := tk } := I.kept (t' := tk) kS
    have hn0 : H h'.objs.size = none := I.hok.fresh (Nat.le_of_lt hlt)
    have hlen : (zs.map fun z => V.ref z.1).length ≤ sizeLine := by
      have e := hperm.length_eq
      rw [List.length_map] at e
      rw [List.length_map]
      omega
    have rv : Vals (zs.map fun z => V.ref z.1) out := by
      rw [← ez]
      exact vals_maps (fun z : Addr × Int × V => V.ref z.1) (fun z => Value.ref z.1) zs fun _ _ => rfl
    have I2 : Inv X pins σ (upd H h'.objs.size (.lst (zs.map fun z => V.ref z.1))) { s with heap := sortedHeap h2 h'.objs.size (as.map Value.ref) out.toArray, toks := tk } :=
      I1.take (h' := sortedHeap h2 h'.objs.size (as.map Value.ref) out.toArray) (t' := tk) (fun b ob _ e => e) (I.fpOk (Nat.le_of_lt hlt) hn0) ⟨hlen, out, eF, rv, heF⟩
    obtain ⟨H2, I3, g, qt⟩ := DX.takeT (P := fun b vs => ∃ (j : Nat) (e : Int × V), as[j]? = some b ∧ ks[j]? = some e ∧ vs = [.int e.1, e.2]) I as _ I2 nd fun b hb => by
      obtain ⟨j, hj⟩ := List.mem_iff_getElem?.mp hb
      obtain ⟨e, t, u, he, hrel, hg⟩ := pr j b hj
      have hbl : s.heap.objs.size ≤ b := Nat.le_of_lt (hG.above b hb)
      refine ⟨hbl, ?_, [.int e.1, e.2], ⟨j, e, hj, he, rfl⟩, fun H3 => ⟨(by rw [sizeLine_eq]; show 2 ≤ 16777216; omega), [Value.int e.1 t, u], .cons ⟨t, rfl⟩ (.cons hrel .nil), ⟨_, kF _ _ (ne0 _ _ hg) (ka _ _ hg), rfl, 0, rfl⟩⟩⟩
      rw [upd_ne (ne0 _ _ hg)]
      exact I.hok.fresh hbl
    have gr : ∀ b o, H b = some o → H2 b = some o := fun b o e => g b o (by rw [upd_ne (ne_of_none e hn0)]; exact e)
    refine ⟨.ref h'.objs.size, H2, I3, rfl, q H2 h'.objs.size zs gr hn0 hperm hsort (g _ _ upd_same) fun z' hz' => ?_⟩
    obtain ⟨i, i1, i2⟩ := idx z' hz'
    obtain ⟨vs, ⟨j, e, j1, j2, ev⟩, hH⟩ := qt z'.1 (List.mem_of_getElem? i1)
    have eij : i = j := (List.getElem?_inj (List.getElem?_eq_some_iff.mp i1).1 nd).mp (i1.trans j1.symm)
    subst eij
    have ee : e = z'.2 := Option.some.inj (j2.symm.trans i2)
    rw [ev, ee] at hH
    exact hH
end
end HS

/-! ### x == a text, x any thing that is tracked, a dict too -/
namespace EQT
open PySem PySem.Spec PyProof.Rows L2 PySem.SeqAt
theorem str_eq_declines_any (b : Str) (u : Tok) (l : Addr) (o : Obj) (hc : o.cls = .type "dict") (es : Array DictEntry) (n : Nat) (hd : o.data = .dict es n) :
    Meets (Builtin.«str.__eq__» ⟨[.str b u, .ref l], []⟩) (fun _ R s => s.heap.get? l = some o ∧ R (.ok (.ret .notImplemented)) s) := by
  obtain ⟨cls, dd, data, sl⟩ := o
  simp only at hc hd
  subst hc hd
  exact .of_wp fun prog w A R s h => by obtain ⟨hp, g, d, tk, os⟩ := s; obtain ⟨hl, h⟩ := h; wp_walk using wpAny_loadPart' hl, wpAny_load hl; exact ⟨_, rfl, h⟩
section
variable {A : Around} {s : Shared}
theorem dict_declines {prog : Program} {w : World} {E : Value → Shared → Prop} {l : Addr} (b : Str) (u : Tok) (hl : s.TypeIs (.ref l) "dict") (F1 : Slot "dict" (cmpInfo .Eq).2.1 "dict.__eq__" ∨ True) {Q : Value → Shared → Prop} (hq : Q .notImplemented s) : wpAny (model prog w) A (call (.builtin "dict.__eq__") [.ref l, .str b u]) Q E s := by
  refine wpAny_call_entry F.slot_dict_eq hl F.entry_dict_eq ?_ (F.args_dict_eq_2 _ _)
  show wpAny _ _ (Builtin.Dict.dictSlotArgs "__eq__" ⟨[.ref l, .str b u], []⟩ >>= _) _ _ s
  refine wpAny_bind ?_
  unfold Builtin.Dict.dictSlotArgs
  refine wpAny_bind (wpAny_notOrdered_dict hl ?_)
  show wpAny _ _ (pure (Value.ref l, Value.str b u)) _ _ s
  refine wpAny_pure ?_
  refine wpAny_bind (wpAny_isInstance (T := "str") (U := "dict") (typeIs_str s b u) F.sub_str_dict ?_)
  simp only [Bool.not_false, if_true]
  exact wpAny_bind (wpAny_rule (wpAny_pure ⟨_, rfl, hq⟩))
theorem RcAt.dict_str {l : Addr} (b : Str) (u : Tok) (hlo : ∃ o es n, s.heap.get? l = some o ∧ o.cls = .type "dict" ∧ o.data = .dict es n) (hu : A.units < cLine) : RcAt A s (.ref l) (.str b u) false := fun prog w E Q h => by
  obtain ⟨o, es, n, ho, hc, hd⟩ := id hlo
  have hl : s.TypeIs (.ref l) "dict" := ⟨o, ho, hc⟩
  exact rc_eq_decline_or (k := false) hl (typeIs_str s b u) (by decide) F.sub_str_dict F.slot_dict_eq F.slot_str_eq_refl
    (fun _ hq => dict_declines b u hl (.inr trivial) hq)
    (fun _ hq => call_meets F.slot_str_eq_refl (typeIs_str s b u) F.entry_str_eq (F.args_str_eq_2 _ _) (str_eq_declines_any b u l o hc es n hd) ⟨ho, hq⟩)
    (fun _ hq => wpAny_of_eq (rfl : isSame (.ref l) (.str b u) = pure false) hq) (.inr hu) h
theorem RcAt.str_dict {l : Addr} (b : Str) (u : Tok) (hlo : ∃ o es n, s.heap.get? l = some o ∧ o.cls = .type "dict" ∧ o.data = .dict es n) (hu : A.units < cLine) : RcAt A s (.str b u) (.ref l) false := fun prog w E Q h => by
  obtain ⟨o, es, n, ho, hc, hd⟩ := id hlo
  have hl : s.TypeIs (.ref l) "dict" := ⟨o, ho, hc⟩
  exact rc_eq_decline_or (k := false) (typeIs_str s b u) hl (by decide) F.sub_dict_str F.slot_str_eq F.slot_dict_eq_refl
    (fun _ hq => call_meets F.slot_str_eq (typeIs_str s b u) F.entry_str_eq (F.args_str_eq_2 _ _) (str_eq_declines_any b u l o hc es n hd) ⟨ho, hq⟩)
    (fun _ hq => dict_declines b u hl (.inr trivial) hq)
    (fun _ hq => wpAny_of_eq (rfl : isSame (.str b u) (.ref l) = pure false) hq) (.inr hu) h
theorem EqAt.str_dict {l : Addr} (b : Str) (u : Tok) (hlo : ∃ o es n, s.heap.get? l = some o ∧ o.cls = .type "dict" ∧ o.data = .dict es n) (hu : A.units < cLine) : EqAt A s (.str b u) (.ref l) false := fun prog w E Q h => by
  unfold eqBool
  refine wpAny_holding ?_
  refine wpAny_ite_split (fun hab => absurd (eq_of_beq hab) nofun) (fun _ => ?_)
  exact wpAny_bind (RcAt.str_dict b u hlo hu prog w E _ (wpAny_truthy_bool h))
end
/-- any thing that is tracked: none, a number, a truth, a text, a list, a tuple, a dict -/
def Thg (K : PySem.W.Frag) (H : Hp) (x : V) : Prop := (∃ a xs, x = .ref a ∧ SqL K H a xs) ∨ (∃ a xs, x = .ref a ∧ SqT K H a xs) ∨ (∃ a kvs, x = .ref a ∧ H a = some (.dK kvs)) ∨ scal x (.str Str.empty) = true
/-- it is this text -/
def isStr : V → Str → Bool
  | .str t, z => decide (t = z)
  | _, _ => false
section
variable {X : Cx}
theorem dict_at {pins : List (Addr × Obj)} {σ : L2.St} {H : Hp} {s : Shared} (I : Inv X pins σ H s) {a : Addr} {kvs : List (Key × V)} (h : H a = some (.dK kvs)) : ∃ o es n, s.heap.get? a = some o ∧ o.cls = .type "dict" ∧ o.data = .dict es n := by
  obtain ⟨_, ya, va, ra, da⟩ := (show ObjOk X.prog X.w H s.heap a (.dK kvs) from I.hok a _ h)
  obtain ⟨o, es, ep, h1, h2, h3, _⟩ := da
  exact ⟨o, es, ep, h1, h2.1, h3⟩
def rEqS (K : PySem.W.Frag) : R2 := fun x y H Q => ∃ z, y = .str z ∧ Thg K H x ∧ Q (.bl (isStr x z)) H
theorem op_eqS (hu : X.A.units < cLine) : OpR X (compareOp .Eq) (rEqS X.K) := by
  intro pins s σ H x y v u Q I rx ry h
  obtain ⟨z, rfl, ht, q⟩ := h
  obtain ⟨tu, rfl⟩ := ry
  rcases ht with ⟨a, xs, rfl, ha⟩ | ⟨a, xs, rfl, ha⟩ | ⟨a, kvs, rfl, ha⟩ | hs
  · cases (show v = Value.ref a from rx)
    obtain ⟨us, r1, p1, _⟩ := I.list ha
    exact SeqAt.RcAt.list_str z tu p1.isList hu _ _ _ _ ⟨.bl _, H, I, rfl, q⟩
  · cases (show v = Value.ref a from rx)
    obtain ⟨us, r1, p1, _⟩ := I.tuple ha
    exact SeqAt.RcAt.tuple_str z tu p1 hu _ _ _ _ ⟨.bl _, H, I, rfl, q⟩
  · cases (show v = Value.ref a from rx)
    exact RcAt.dict_str z tu (dict_at I ha) hu _ _ _ _ ⟨.bl _, H, I, rfl, q⟩
  · have e : scal x (.str z) = true ∧ isStr x z = decide (x = .str z) := by
      cases x with
      | str t => exact ⟨rfl, decide_eq_decide.mpr ⟨fun h => by rw [h], fun h => by injection h⟩⟩
      | non => exact ⟨rfl, rfl⟩
      | int i => exact ⟨rfl, (decide_eq_false nofun).symm⟩
      | bl b => exact ⟨rfl, (decide_eq_false nofun).symm⟩
      | _ => exact absurd hs (by simp [scal])
    rw [e.2] at q
    exact op_eq pins s σ H x (.str z) v _ Q I rx ⟨tu, rfl⟩ ⟨e.1, q⟩
/-- a text and any thing -/
theorem eqAt_thg {pins : List (Addr × Obj)} {σ : L2.St} {H : Hp} {s : Shared} (I : Inv X pins σ H s) {A : Around} (hu : A.units < cLine) {x : V} {v : Value} (rx : RelV x v) (ht : Thg X.K H x) (z : Str) (tu : Tok) : EqAt A s (.str z tu) v (isStr x z) := by
  rcases ht with ⟨a, xs, rfl, ha⟩ | ⟨a, xs, rfl, ha⟩ | ⟨a, kvs, rfl, ha⟩ | hs
  · cases (show v = Value.ref a from rx)
    obtain ⟨us, r1, p1, _⟩ := I.list ha
    exact SeqAt.EqAt.str_list z tu p1.isList hu
  · cases (show v = Value.ref a from rx)
    obtain ⟨us, r1, p1, _⟩ := I.tuple ha
    exact SeqAt.EqAt.str_tuple z tu p1 hu
  · cases (show v = Value.ref a from rx)
    exact EqAt.str_dict z tu (dict_at I ha) hu
  · cases x with
    | str t =>
      obtain ⟨t2, rfl⟩ := rx
      have e : (z == t) = isStr (.str t) z := by
        show (z == t) = decide (t = z)
        rw [Bool.eq_iff_iff, beq_iff_eq, decide_eq_true_eq]
        exact eq_comm
      rw [← e]
      exact SeqAt.EqAt.str_str z tu t t2
    | non =>
      cases rx
      exact SeqAt.EqAt.str_none z tu
    | int i =>
      obtain ⟨t2, rfl⟩ := rx
      exact SeqAt.EqAt.str_int z tu i t2
    | bl b =>
      cases rx
      exact SeqAt.EqAt.str_bool z tu b
    | _ => exact absurd hs (by simp [scal])
def rInS (K : PySem.W.Frag) (neg : Bool) : R2 := fun x y H Q => ∃ (p : Addr) (zs : List Str), y = .ref p ∧ SqT K H p (zs.map V.str) ∧ Thg K H x ∧ Q (.bl (if neg then !(zs.any fun z => isStr x z) else zs.any fun z => isStr x z)) H
def hitU (x : V) : Value → Bool
  | .str t _ => isStr x t
  | _ => false
theorem hits_strs {x : V} : ∀ {zs : List Str} {us : List Value}, Vals (zs.map V.str) us → us.any (hitU x) = zs.any fun z => isStr x z
  | [], _, h => by cases h; rfl
  | z :: zs, _, h => by
    cases h with
    | cons r rs =>
      obtain ⟨t, rfl⟩ := r
      rw [List.any_cons, List.any_cons, hits_strs rs]
      rfl
theorem strs_mem {zs : List Str} {us : List Value} (h : Vals (zs.map V.str) us) {u : Value} (hu : u ∈ us) : ∃ z t, u = .str z t := by
  obtain ⟨j, hj⟩ := List.getElem?_of_mem hu
  have hz : ∃ y, (zs.map V.str)[j]? = some y := by
    cases e : (zs.map V.str)[j]? with
    | some y => exact ⟨y, rfl⟩
    | none =>
      rw [h.none_of e] at hj
      cases hj
  obtain ⟨y, hy⟩ := hz
  obtain ⟨u', hu', r⟩ := h.get hy
  rw [hj] at hu'
  cases hu'
  rw [List.getElem?_map] at hy
  cases hz2 : zs[j]? with
  | none => rw [hz2] at hy; cases hy
  | some z =>
    rw [hz2] at hy
    cases hy
    obtain ⟨t, rfl⟩ := r
    exact ⟨z, t, rfl⟩
theorem op_inS (hu : X.A.units + 1 < cLine) : OpR X (compareOp .In) (rInS X.K false) := by
  intro pins s σ H x y v u Q I rx ry h
  obtain ⟨p, zs, rfl, hq, ht, q⟩ := h
  cases ry
  obtain ⟨its, r, pl, hz⟩ := I.tuple hq
  refine SeqAt.in_tupleAt (hitU x) pl (fun w hw => ?_) ⟨.bl _, H, I, rfl, ?_⟩
  · obtain ⟨z, t, rfl⟩ := strs_mem r (show w ∈ its by simpa using hw)
    exact eqAt_thg I hu rx ht z t
  · rw [show its.toArray.any (hitU x) = its.any (hitU x) by simp, hits_strs r]
    exact q
theorem op_notInS (hu : X.A.units + 1 < cLine) : OpR X (compareOp .NotIn) (rInS X.K true) := by
  intro pins s σ H x y v u Q I rx ry h
  obtain ⟨p, zs, rfl, hq, ht, q⟩ := h
  cases ry
  obtain ⟨its, r, pl, hz⟩ := I.tuple hq
  refine SeqAt.notIn_tupleAt (hitU x) pl (fun w hw => ?_) ⟨.bl _, H, I, rfl, ?_⟩
  · obtain ⟨z, t, rfl⟩ := strs_mem r (show w ∈ its by simpa using hw)
    exact eqAt_thg I hu rx ht z t
  · rw [show its.toArray.any (hitU x) = its.any (hitU x) by simp, hits_strs r]
    exact q
/-- t + u, however -/
def rCatTS (K : PySem.W.Frag) : R2 := fun x y H Q => ∃ a b xs ys, x = .ref a ∧ y = .ref b ∧ SqT K H a xs ∧ SqT K H b ys ∧ xs.length + ys.length ≤ sizeLine ∧ ∀ p H', L2.Same H H' → SqT K H' p (xs ++ ys) → Q (.ref p) H'
theorem op_catTS : OpR X (binaryOp .Add) (rCatTS X.K) := by
  intro pins s σ H x y v u Q I rx ry h
  obtain ⟨a, b, xs, ys, rfl, rfl, ha, hb, hz, q⟩ := h
  refine op_catA pins s σ H _ _ v u Q I rx ry ⟨a, b, xs, ys, rfl, rfl, ha, hb, hz, fun e => ?_, fun _ e => ?_, fun _ _ p hp => q p _ (HX.same_new hp) (SqT.of upd_same)⟩
  · subst e
    exact q b H (L2.Same.refl H) hb
  · subst e
    exact q a H (L2.Same.refl H) (by rw [List.append_nil]; exact ha)
end
end EQT

/-! ### a tuple turned about: t[::-1] -/
namespace EQT
open PySem PySem.Spec PyProof.Rows L2 HT HX PySem.W
theorem fm_congr {α β : Type} {f g : α → Option β} : ∀ {l : List α}, (∀ x ∈ l, f x = g x) → l.filterMap f = l.filterMap g
  | [], _ => rfl
  | a :: l, h => by
    have ih := fm_congr (l := l) fun x hx => h x (List.mem_cons_of_mem _ hx)
    rw [List.filterMap_cons, List.filterMap_cons, h a (List.mem_cons_self ..), ih]
theorem pick_rev (xs : Array Value) : ((List.range xs.size).filterMap fun (m : Nat) => xs[((xs.size : Int) - 1 + (m : Int) * (-1)).toNat]?).toArray = xs.toList.reverse.toArray := by
  have e : (List.range xs.size).filterMap (fun (m : Nat) => xs[((xs.size : Int) - 1 + (m : Int) * (-1)).toNat]?) = ((List.range xs.size).reverse).filterMap fun m => xs[m]? := by
    rw [← krv_range, List.filterMap_map]
    refine fm_congr fun m hm => ?_
    have := List.mem_range.mp hm
    show xs[((xs.size : Int) - 1 + (m : Int) * (-1)).toNat]? = xs[xs.size - 1 - m]?
    rw [show ((xs.size : Int) - 1 + (m : Int) * (-1)).toNat = xs.size - 1 - m by omega]
  rw [e, List.filterMap_reverse]
  congr 2
  exact krv_all xs
section
variable {prog : Program} {w : World} {A : Around} {E : Value → Shared → Prop} {s : Shared}
theorem adjust_rev (n : Nat) : Builtin.Slice.sliceAdjust none none (-1) (n : Int) = ((n : Int) - 1, -1) := by
  unfold Builtin.Slice.sliceAdjust
  simp
theorem places_rev (n : Nat) : Builtin.Slice.slicePlaces ((n : Int) - 1) (-1) (-1) = n := by
  unfold Builtin.Slice.slicePlaces
  simp
  split <;> omega
theorem sliceApplied_rev {sl : Addr} {vs : Value} {n : Nat} {Q : Int × Int × Nat → Shared → Prop} (hs : s.heap.IsSliceOf sl .none .none vs) (ps : IsPart vs (some (-1)))
    (h : Q ((n : Int) - 1, -1, n) s) : wpAny (model prog w) A (Builtin.Slice.sliceApplied (.ref sl) (pure (n : Int))) Q E s := by
  obtain ⟨os, hos, hcs, hds⟩ := id hs
  unfold Builtin.Slice.sliceApplied Builtin.Slice.sliceFields
  refine wpAny_bind (wpAny_bind (wpAny_field hos hds (x := .none) rfl (wpAny_bind (wpAny_field hos hds (x := .none) rfl (wpAny_bind (wpAny_field hos hds (x := vs) rfl (wpAny_pure ?_)))))))
  refine wpAny_bind (slicePart_ ps ?_)
  show wpAny _ _ (if ((-1 : Int) == 0) = true then _ else _) _ _ s
  rw [if_neg (by decide)]
  refine wpAny_bind (slicePart_none (wpAny_bind (slicePart_none (wpAny_bind (wpAny_pure ?_)))))
  show wpAny _ _ (match Builtin.Slice.sliceAdjust none none (-1) (n : Int) with | (lo, hi) => pure (lo, (-1 : Int), Builtin.Slice.slicePlaces lo hi (-1))) _ _ s
  rw [adjust_rev n]
  show wpAny _ _ (pure ((n : Int) - 1, (-1 : Int), Builtin.Slice.slicePlaces ((n : Int) - 1) (-1) (-1))) _ _ s
  rw [places_rev]
  exact wpAny_pure h
theorem getItem_tuple_rev {t sl : Addr} {items : Array Value} {vs : Value} {Q : Value → Shared → Prop} (ht : IsTup s.heap t items) (hs : s.heap.IsSliceOf sl .none .none vs) (ps : IsPart vs (some (-1)))
    (h : Q (.ref s.heap.objs.size) { s with heap := s.heap.push { cls := .type "tuple", data := .seq items.toList.reverse.toArray } })
    (hsz : items.size ≤ sizeLine) : wpAny (model prog w) A (getItem (.ref t) (.ref sl)) Q E s := by
  have htake : sizeOk (.seq items.toList.reverse.toArray) := by
    show items.toList.reverse.toArray.size ≤ sizeLine
    rw [List.size_toArray, List.length_reverse, Array.length_toList]
    exact hsz
  obtain ⟨os, hos, hcs, hds⟩ := id hs
  have hTs : s.TypeIs (.ref sl) "slice" := ⟨os, hos, hcs⟩
  unfold getItem
  try with_reducible refine wpAny_holding ?_
  first | refine wpAny_bind (wpAny_pure ?_) | skip
  refine wpAny_bind (wpAny_sequenceKey ht.typeIs (by decide) ?_)
  refine wpAny_bind (wpAny_callSpecial?_slot (name := Str.ofString "__getitem__") ht.typeIs PyProof.Rows.slot_tuple_getitem
    (wpAny_call_entry PyProof.Rows.slot_tuple_getitem ht.typeIs entry_tuple_getitem ?_ (args_tuple_getitem _ _)))
  show wpAny _ _ (Builtin.Tuple.tupleItemsOf (.ref t) >>= _) _ _ s
  refine wpAny_bind (tupleItemsOf_ ht ?_)
  refine wpAny_bind (wpAny_typeOf hTs ?_)
  rw [if_pos (by decide)]
  refine wpAny_bind (sliceApplied_rev hs ps ?_)
  have hno : ¬ (((items.size : Int) - 1 == 0 && (-1 : Int) == 1 && items.size == items.size) = true) := by
    intro q
    rw [Bool.and_eq_true, Bool.and_eq_true] at q
    exact absurd (eq_of_beq q.1.2) (by decide)
  show wpAny _ _ (if ((items.size : Int) - 1 == 0 && (-1 : Int) == 1 && items.size == items.size) = true then _ else _) _ _ s
  rw [if_neg hno, pick_rev]
  first
    | exact wpAny_bind (m := Builtin.Tuple.tupleExact _) (wpAny_newObj_type (wpAny_pure ⟨_, rfl, wpAny_pure h⟩) htake)
    | exact wpAny_bind (m := Builtin.Tuple.tupleExact _) (wpAny_newObj_type (wpAny_bind (wpAny_pure (wpAny_pure ⟨_, rfl, wpAny_pure h⟩))) htake)
    | exact wpAny_bind (wpAny_bind (m := Builtin.Tuple.tupleExact _) (wpAny_newObj_type (wpAny_pure (wpAny_pure ⟨_, rfl, wpAny_pure h⟩)) htake))
    | exact wpAny_bind (wpAny_bind (m := Builtin.Tuple.tupleExact _) (wpAny_newObj_type (wpAny_pure ⟨_, rfl, wpAny_pure h⟩) htake))
end
/-! the rule -/
def tRevT (K : PySem.W.Frag) (te : TE) : TE := fun σ H Q => te σ H fun x H1 => ∃ a xs, x = .ref a ∧ SqT K H1 a xs ∧ ∀ p H2, Same H1 H2 → H1 p = none → RU.FzT H2 p xs.reverse → Q (.ref p) H2
theorem pe_revT {X : Cx} {e : Expr} {te : TE} {k : Nat} {p1 p2 p3 pos : Pos} (he : PE X e te) : PE X (.Subscript e (.Slice none none (some (.UnaryOp .USub (.Constant (.int 1) k p1) p2)) p3) pos) (tRevT X.K te) := by
  refine ⟨fun pins s σ H Q I h => ?_⟩
  refine Subscript_ (thn (he.run pins s σ H _ I h) fun v s1 ⟨x, H1, I1, r1, q1⟩ => ?_)
  obtain ⟨a, xs, ex, hx, q⟩ := q1
  subst ex
  cases r1
  have hst : PO X (some (.UnaryOp .USub (.Constant (.int 1) k p1) p2)) (tPart (tUn (rU fun i => .int (-i)) (tC (.int 1)))) := po_some (pe_un un_neg pe_int)
  refine wpAny_Slice (thn (po_none.run pins s1 σ H1 (fun o H2 => o = none ∧ H2 = H1) I1 ⟨rfl, rfl⟩) fun vl s2 ⟨l, H2, I2, pl, el, e2⟩ => ?_)
  subst el e2
  refine thn (po_none.run pins s2 σ H2 (fun o H3 => o = none ∧ H3 = H2) I2 ⟨rfl, rfl⟩) fun vu s3 ⟨u, H3, I3, pu, eu, e3⟩ => ?_
  subst eu e3
  refine thn (hst.run pins s3 σ H3 (fun o H4 => o = some (-1) ∧ H4 = H3) I3 ⟨1, rfl, -1, rfl, rfl, rfl⟩) fun vs s4 ⟨o, H4, I4, ps, eo, e4⟩ => ?_
  subst eo e4
  cases pl
  cases pu
  have I5 : Inv X pins σ H4 { s4 with heap := s4.heap.push { cls := .type "slice", data := .fields #[.none, .none, vs] } } := I4.kept (t' := s4.toks) fun b ob q => Heap.get?_push_of_some _ q
  obtain ⟨its, r, ht, hz⟩ := I5.tuple hx
  have hlen := r.length
  show wpAny (model X.prog X.w) X.A (subscriptTail e (.Slice none none (some (.UnaryOp .USub (.Constant (.int 1) k p1) p2)) p3) (.ref a) (.ref s4.heap.objs.size)) (EP X pins σ Q) X.xe { s4 with heap := s4.heap.push { cls := .type "slice", data := .fields #[.none, .none, vs] } }
  refine tail_any (ops := [.ref a, .ref s4.heap.objs.size]) ht.typeIs (PyProof.Rows.slot_tuple_getitem.lookup) ?_ (by with_unfolding_all rfl)
  refine getItem_tuple_rev ht (Heap.IsSliceOf.new _ .none .none vs) ps ?_ (by rw [List.size_toArray]; omega)
  let ob : Obj := { cls := .type "tuple", data := .seq its.toArray.toList.reverse.toArray }
  refine ⟨.ref _, _, I5.laid (t' := s4.toks) (o := .frz ob (.tup xs.reverse)) (fun b u z => Heap.get?_push_of_some _ z) (Nat.le_refl _) ?_, rfl, q _ _ (same_new (I5.hok.fresh (Nat.le_refl _))) (I5.hok.fresh (Nat.le_refl _)) ⟨ob, upd_same, rfl⟩⟩
  exact ⟨Heap.get?_push_size _ rfl, by rw [List.length_reverse]; exact hz, _, by simpa [ob] using r.reverse, _, Heap.get?_push_size _ rfl, rfl, _, rfl⟩
end EQT

/-! ### a tuple many times: t * n -/
namespace EQT
open PySem PySem.Spec PyProof.Rows L2 HT HX PySem.W
theorem tuple_mulSelf (l : Addr) (items : Array Value) (n : Nat) (dd : Option Addr) (sl : Array (Option Value)) (x : Int) (u : Tok) (c0 : (decide (x < -(2 ^ 63)) || decide (x ≥ 2 ^ 63)) = false) (c1 : (items.isEmpty || x == 1) = true) :
    Meets (Builtin.«tuple.__mul__» ⟨[.ref l, .int x u], []⟩) (fun _ R s => s.heap.get? l = some { cls := .type "tuple", dict := dd, data := .seq items n, slots := sl } ∧ R (.ok (.ret (Value.ref l))) s) :=
  .of_wp fun prog w A R s h => by
    obtain ⟨hp, g, d, tk, os⟩ := s
    obtain ⟨hl, h⟩ := h
    have f1 := AutoSeq1.idx_int
    wp_walk using wpAny_loadPart' hl
    repeat (first
      | (refine wpAny_ite_false (decide_eq_false (by rw [c0]; exact Bool.false_ne_true)) ?_; wp_walk using wpAny_loadPart' hl)
      | (refine wpAny_ite_true (decide_eq_true (by rw [c1])) ?_; wp_walk using wpAny_loadPart' hl))
    exact ⟨_, rfl, h⟩
def rRepTS (K : PySem.W.Frag) : R2 := fun x y H Q => ∃ l k xs, x = .ref l ∧ y = .int k ∧ SqT K H l xs ∧ 1 ≤ k ∧ k ≤ 1000 ∧ xs.length ≤ 1000 ∧ ∀ p H', L2.Same H H' → (p = l ∨ H p = none) → SqT K H' p (List.replicate k.toNat xs).flatten → Q (.ref p) H'
section
variable {X : Cx}
theorem rep_self {α : Type} {xs : List α} {k : Int} (h : xs = [] ∨ k = 1) : (List.replicate k.toNat xs).flatten = xs := by
  rcases h with rfl | rfl
  · induction k.toNat with
    | zero => rfl
    | succ n ih => rw [List.replicate_succ, List.flatten_cons, ih]; rfl
  · show (List.replicate 1 xs).flatten = xs
    simp
theorem op_repTS : OpR X (binaryOp .Mult) (rRepTS X.K) := by
  intro pins s σ H x y v u Q I rx ry h
  obtain ⟨l, k, xs, rfl, rfl, hT, h1, h2, hz, q⟩ := h
  by_cases c : xs = [] ∨ k = 1
  · cases rx
    obtain ⟨t, rfl⟩ := ry
    obtain ⟨its, r, ⟨⟨cls, dd, data, sl⟩, ho, hc, n, hd⟩, hs⟩ := I.tuple hT
    simp only at hc hd
    subst hc hd
    have hle : its.length = xs.length := r.length.symm
    have c0 : (decide (k < -(2 ^ 63)) || decide (k ≥ 2 ^ 63)) = false := by
      rw [decide_eq_false (by omega), decide_eq_false (by omega)] <;> rfl
    have c1 : (its.toArray.isEmpty || k == 1) = true := by
      rcases c with rfl | rfl
      · have e : its = [] := List.eq_nil_of_length_eq_zero hle
        subst e
        rfl
      · exact Bool.or_true _
    refine wpAny_binaryOp_repeat_ref (T := "tuple") (U := "int") (by decide) ⟨_, ho, rfl⟩ (fun s' => typeIs_int s' k t) noFill_tuple_mul F.fills_int_mul F.slot_int_rmul repeat_tuple F.slot_int_index.lookup
      (call_meets F.slot_int_rmul (typeIs_int s k t) F.entry_int_rmul (F.args_int_rmul_2 _ _) (int_rmul_tuple k t l its.toArray n dd sl)
        ⟨ho, rfl, ⟨_, ho, rfl⟩, call_meets F.slot_tuple_mul ⟨_, ho, rfl⟩ F.entry_tuple_mul (F.args_tuple_mul_2 _ _) (tuple_mulSelf l its.toArray n dd sl k t c0 c1) ⟨ho, ?_⟩⟩)
    exact ⟨.ref l, H, I, rfl, q l H (L2.Same.refl H) (.inl rfl) (by rw [rep_self c]; exact hT)⟩
  · exact op_repT pins s σ H _ _ v u Q I rx ry ⟨l, k, xs, rfl, rfl, hT, fun e => c (.inl e), by omega, h2, hz, fun p hp => q p _ (HX.same_new hp) (.inr hp) (SqT.of upd_same)⟩
end
end EQT
/-! ### methods of a builtin's value in a comprehension -/
namespace EQT
open PySem PySem.Spec PyProof.Rows L2 HT HX PySem.W
section
variable {X : Cx} {o e : Expr} {es : List Expr} {to : TE} {t : TA} {name : Str} {apos cpos : Pos} {T id : String} {r : V → List V → Hp → VK → Prop}
theorem pe_bmK (K : PySem.W.Frag) (pa : PlainAttrs T) (slot : Slot T name id) (hty : typeOf (.builtin id) = pure (.type "method_descriptor")) (hm : MtR X id r) (ho : PE X o to) (ha : PA X (e :: es) t)
    (hk : X.K = K := by rfl)
    (hbase : attributeBase o name X.env (eval o X.env) = eval o X.env := by rfl)
    (hfew : ((backTo cpos (starEach (e :: es) X.env)).all (fun x => !x.1) && (backToKw cpos (keywordEach [] X.env)).all (fun x => x.1.isSome)
      && decide ((e :: es).length + ([] : List Keyword).length + (if ([] : List Keyword).isEmpty then 0 else 1) < 30)) = true := by rfl)
    (hline : (apos.endLine == cpos.line) = true := by rfl) (hs : starEach (e :: es) X.env = (false, eval e X.env) :: starEach es X.env := by rfl) (hplain : (backTo cpos (starEach es X.env)).any (·.1) = false := by rfl) :
    PE X (.Call (.Attribute o name apos) (e :: es) [] cpos) (tBM K T r to t) := by
  subst hk
  exact pe_bm pa slot hty hm ho ha hbase hfew hline hs hplain
theorem mt_indexK (K : PySem.W.Frag) (hk : X.K = K := by rfl) : MtR X "list.index" (rIndex K) := by
  subst hk
  exact mt_index
theorem notInK (K : PySem.W.Frag) (h : X.K = K := by rfl) : OpR X (compareOp .NotIn) (rIn K true) := h ▸ op_notIn_seq
theorem inK (K : PySem.W.Frag) (h : X.K = K := by rfl) : OpR X (compareOp .In) (rIn K false) := h ▸ op_in_seq
theorem call_tupK (K : PySem.W.Frag) (h : X.K = K := by rfl) : CallR X (.type "tuple") (fun xs H Q => ∃ p ys, xs = [.ref p] ∧ SqL K H p ys ∧ ∀ (l : Addr) (H' : Hp), Same H H' → H l = none → RU.FzT H' l ys → Q (.ref l) H') := by
  subst h
  exact RU.call_tupS
/-! sums and parts of tuples: the tuple itself, or a new one -/
def rSlN (K : PySem.W.Frag) : V → Option Int → Option Int → Hp → VK → Prop := fun x lo hi H Q => ∃ a xs, x = .ref a ∧ SqT K H a xs ∧ ∀ p H', L2.Same H H' → (p = a ∨ H p = none) → SqT K H' p (cutV xs lo hi) → Q (.ref p) H'
theorem sl_tupN : SlR X (rSlN X.K) := by
  intro pins s σ H x v vl vu lo hi sl Q I rx hs pl pu h
  obtain ⟨a, xs, rfl, hx, q⟩ := h
  refine sl_tupA pins s σ H _ v vl vu lo hi sl Q I rx hs pl pu ⟨a, xs, rfl, hx, fun ⟨w1, w2⟩ => q a H (L2.Same.refl H) (.inl rfl) ?_, fun _ p hp => q p _ (HX.same_new hp) (.inr hp) (SqT.of upd_same)⟩
  unfold cutV
  rw [w1, w2, List.drop_zero, Nat.sub_zero, List.take_length]
  exact hx
def rCatTN (K : PySem.W.Frag) : R2 := fun x y H Q => ∃ a b xs ys, x = .ref a ∧ y = .ref b ∧ SqT K H a xs ∧ SqT K H b ys ∧ xs.length + ys.length ≤ sizeLine ∧ ∀ p H', L2.Same H H' → (p = a ∨ p = b ∨ H p = none) → SqT K H' p (xs ++ ys) → Q (.ref p) H'
theorem op_catTN : OpR X (binaryOp .Add) (rCatTN X.K) := by
  intro pins s σ H x y v u Q I rx ry h
  obtain ⟨a, b, xs, ys, rfl, rfl, ha, hb, hz, q⟩ := h
  refine op_catA pins s σ H _ _ v u Q I rx ry ⟨a, b, xs, ys, rfl, rfl, ha, hb, hz, fun e => ?_, fun _ e => ?_, fun _ _ p hp => q p _ (HX.same_new hp) (.inr (.inr hp)) (SqT.of upd_same)⟩
  · subst e
    exact q b H (L2.Same.refl H) (.inr (.inl rfl)) hb
  · subst e
    exact q a H (L2.Same.refl H) (.inl rfl) (by rw [List.append_nil]; exact ha)
/-! a list and a list that is given -/
theorem add_given (l : Addr) (items : Array Value) (n : Nat) (b : Addr) (items2 : Array Value) (n2 : Nat) (sl : Array (Option Value)) (hc0 : items.size + items2.size ≤ sizeLine) :
    Meets (Builtin.«list.__add__» ⟨[.ref l, .ref b], []⟩) (fun _ R s => s.heap.get? l = some { cls := .type "list", dict := none, data := .seq items n, slots := #[] } ∧ s.heap.get? b = some { cls := .type "list", dict := none, data := .seq items2 n2, slots := sl } ∧ R (.ok (.ret (Value.ref s.heap.objs.size))) { s with heap := s.heap.push { cls := Value.type "list", data := Data.seq (items ++ items2) }, toks := s.toks }) :=
  .of_wp fun prog w A R s h => by obtain ⟨hp, g, d, tk, os⟩ := s; obtain ⟨hl, hb, h⟩ := h; have f1 := AutoSeq1.idx_int; have f2 := AutoSeq1.sub_tuple_tuple; have f3 := AutoSeq1.sub_list_list; have f4 := AutoSeq1.sub_tuple_list; have f5 := AutoSeq1.sub_list_tuple; wp_walk using wpAny_loadPart' hl, wpAny_loadPart' hb; exact ⟨_, rfl, h⟩
theorem op_catQ : OpR X (binaryOp .Add) (fun x y H Q => ∃ l b xs zs, x = .ref l ∧ y = .ref b ∧ H l = some (.lst xs) ∧ SqL X.K H b zs ∧ xs.length + zs.length ≤ sizeLine ∧ ∀ (p : Addr) (H' : Hp), L2.Same H H' → H p = none → H' p = some (.lst (xs ++ zs)) → Q (.ref p) H') := by
  intro pins s σ H x y v u Q I rx ry h
  obtain ⟨l, b, xs, zs, rfl, rfl, hH, hB, hz, q⟩ := h
  cases rx
  cases ry
  obtain ⟨z, its, n, r, hl, e⟩ := I.lstM hH
  obtain ⟨its2, r2, ⟨⟨cls, dd, data, sl⟩, n2, e2, hc, hdd, hd⟩, z2⟩ := I.list hB
  simp only at hc hdd hd
  subst hc hdd hd
  have l2 := r2.length
  refine concat_meets ⟨_, e, rfl⟩ ⟨_, e2, rfl⟩ noFill_list_add seq_list_add F.slot_list_add F.entry_list_add (F.args_list_add_2 _ _) (add_given l its.toArray n b its2.toArray n2 sl (by rw [List.size_toArray, List.size_toArray]; omega)) ⟨e, e2, ?_⟩
  have ea : its.toArray ++ its2.toArray = (its ++ its2).toArray := by simp
  rw [ea]
  exact ⟨.ref _, _, I.lnew (t' := s.toks) (r.append r2) (by rw [List.length_append]; omega), rfl, q _ _ (HX.same_new I.fresh) I.fresh upd_same⟩
end
end EQT

/-! ### sorted(rows), rows a list of tuples of a whole number and any thing, the numbers unlike -/
namespace HS
open PySem PySem.Spec PyProof.Rows L2
section
variable {X : Cx}
def rSortRow (K : PySem.W.Frag) : List V → Hp → VK → Prop := fun vs H Q => ∃ (a : Addr) (ps : List (Addr × Int × V)), vs = [.ref a] ∧ SqL K H a (ps.map fun z => V.ref z.1) ∧ (∀ z ∈ ps, H z.1 = some (.tup [.int z.2.1, z.2.2])) ∧ (ps.map fun z => z.2.1).Nodup ∧
  ∀ (H' : Hp) (l : Addr) (qs : List (Addr × Int × V)), (∀ b o, H b = some o → H' b = some o) → H l = none → qs.Perm ps → qs.Pairwise (fun e f => e.2.1 < f.2.1) → H' l = some (.lst (qs.map fun z => V.ref z.1)) → Q (.ref l) H'
theorem refs_vals : ∀ {ps : List (Addr × Int × V)} {us : List Value}, Vals (ps.map fun z => V.ref z.1) us → us = ps.map fun z => Value.ref z.1
  | [], _, h => by
    cases h
    rfl
  | z :: ps, _, h => by
    cases h with
    | cons r rs =>
      rw [refs_vals rs]
      exact congrArg (fun v => v :: _) r
theorem cr_sortedRow : CallR X (.builtin "sorted") (rSortRow X.K) := by
  intro pins s σ H vs us Q I r h
  obtain ⟨a, ps, rfl, hs, hx, nd, q⟩ := h
  obtain ⟨its, rv, hl, hz⟩ := I.list hs
  rw [Vals.ref1 r]
  have ei := refs_vals rv
  have ent : ∀ z ∈ ps, IsEnt s.heap (.ref z.1) z.2.1 ∧ kfI s.heap (.ref z.1) = z.2.1 := fun z hz => by
    obtain ⟨_, its2, r2, o, ho, hc, n, hd⟩ := I.hok _ _ (hx z hz)
    obtain ⟨u1, u2, rfl, ri, rj⟩ := vals2 r2
    obtain ⟨t1, rfl⟩ := ri
    exact ⟨⟨z.1, o, t1, u2, n, rfl, ho, hc, hd⟩, kfI_of ho hd⟩
  have inj : ∀ v ∈ its, ∀ u ∈ its, kfI s.heap v = kfI s.heap u → v = u := by
    intro v hv u hu hvu
    rw [ei] at hv hu
    obtain ⟨z, hz, rfl⟩ := List.mem_map.mp hv
    obtain ⟨y, hy, rfl⟩ := List.mem_map.mp hu
    rw [(ent z hz).2, (ent y hy).2] at hvu
    obtain ⟨i, hi⟩ := List.mem_iff_getElem?.mp hz
    obtain ⟨j, hj⟩ := List.mem_iff_getElem?.mp hy
    have e1 : (ps.map fun z => z.2.1)[i]? = some z.2.1 := by rw [List.getElem?_map, hi]; rfl
    have e2 : (ps.map fun z => z.2.1)[j]? = some z.2.1 := by rw [List.getElem?_map, hj, hvu]; rfl
    have eij : i = j := (List.getElem?_inj (List.getElem?_eq_some_iff.mp e1).1 nd).mp (e1.trans e2.symm)
    subst eij
    rw [hi] at hj
    cases hj
    rfl
  refine SrtO.sorted_ord (swo_int (kfI s.heap)) hl.isList (by rw [← rv.length]; exact hz) (fun h2 h₁ a' ha kk => ?_) fun out h1 h2 => ?_
  · refine ents_sortable (s := { s with heap := h₁ }) (by omega) (fun v hv => ?_) inj fun o e => ?_
    · rw [ei] at hv
      obtain ⟨z, hz, rfl⟩ := List.mem_map.mp hv
      obtain ⟨⟨b, o, t, u, n, e, ho, hc, hd⟩, e2⟩ := ent z hz
      rw [e2]
      exact ⟨b, o, t, u, n, e, (kk b o ho).2, hc, hd⟩
    · have e' : some o = some (seqObj "list" its.toArray 0) := e.symm.trans ha
      cases e'
      intro c
      exact absurd (Value.type.inj c) (by decide)
  · obtain ⟨ep, he'⟩ := PyProof.Rows.sortedAll_at s.heap its out.toArray
    obtain ⟨zs, pz, ez⟩ := perm_lift (fun z : Addr × Int × V => Value.ref z.1) h2.perm ps ei.symm
    have rvo : Vals (zs.map fun z => V.ref z.1) out := by
      rw [← ez]
      exact vals_maps (fun z : Addr × Int × V => V.ref z.1) (fun z => Value.ref z.1) zs fun _ _ => rfl
    have hlen : (zs.map fun z => V.ref z.1).length ≤ sizeLine := by
      have e := pz.length_eq
      rw [List.length_map] at hz ⊢
      omega
    have hsort : zs.Pairwise (fun e f => e.2.1 < f.2.1) := by
      have le : zs.Pairwise (fun e f => e.2.1 ≤ f.2.1) := by
        have o1' : out.Pairwise (fun v u => decide (kfI s.heap u < kfI s.heap v) = false) := h1
        rw [← ez, List.pairwise_map] at o1'
        refine List.Pairwise.imp_of_mem (fun {x y} hx hy h => ?_) o1'
        have h2 := of_decide_eq_false h
        rw [(ent x (pz.mem_iff.mp hx)).2, (ent y (pz.mem_iff.mp hy)).2] at h2
        omega
      have ne : zs.Pairwise (fun e f => e.2.1 ≠ f.2.1) := by
        have n1 : (zs.map fun z => z.2.1).Nodup := (pz.map fun z => z.2.1).nodup_iff.mpr nd
        exact List.pairwise_map.mp n1
      exact List.Pairwise.imp (fun {x y} h => by have := h.1; have := h.2; omega) (List.Pairwise.and le ne)
    refine ⟨.ref _, upd H (s.heap.objs.size + 1) (.lst (zs.map fun z => V.ref z.1)), I.laid (t' := s.toks) (fun _ _ => PyProof.Rows.sortedAll_old) (Nat.le_succ _) ⟨hlen, out, ep, rvo, he'⟩, rfl, q _ _ zs (HX.same_new (I.hok.fresh (Nat.le_succ _))) (I.hok.fresh (Nat.le_succ _)) pz hsort upd_same⟩
end
end HS

/-! ### zip of three: TLL -/
namespace RU
open PySem PySem.Spec PyProof.Rows L2 HX RZ
def ItzTLL (K : PySem.W.Frag) (a b c : Addr) : It :=
  ⟨fun i H => ∃ (xs ys zs : List V), SqT K H a xs ∧ SqL K H b ys ∧ SqL K H c zs ∧ i < min (min xs.length ys.length) zs.length,
    fun i H v H' => ∃ T x y z, v = .ref T ∧ H T = none ∧ H' = upd H T (.tup [x, y, z]) ∧ (∀ xs, SqT K H a xs → xs[i]? = some x) ∧ (∀ ys, SqL K H b ys → ys[i]? = some y) ∧ ∀ zs, SqL K H c zs → zs[i]? = some z,
    fun i H => ∃ xs ys zs : List V, SqT K H a xs ∧ SqL K H b ys ∧ SqL K H c zs ∧ i = min (min xs.length ys.length) zs.length⟩
def ZnTLL (z TI TO i1 i2 i3 a b c : Addr) (i : Nat) (h : Heap) : Prop := IsZip h z TI TO .none ∧ IsTupOf3 h TI (.ref i1) (.ref i2) (.ref i3) ∧ (∃ x y u, IsTupOf3 h TO x y u) ∧ h.IsTupleIter i1 a i ∧ h.IsListIter i2 b i ∧ h.IsListIter i3 c i
theorem turn_zipTLL {P : Program} {w : World} {K : PySem.W.Frag} {elts : List Expr} {kk : Nat} {tpos : Pos} {a b c z TI TO i1 i2 i3 : Addr} (S : ZipSep3 z TI TO i1 i2 i3 [i1, a] [i2, b] [i3, c]) (na : a ≠ i1) (nb : b ≠ i2) (nc : c ≠ i3) :
    Turn P w K (.Tuple elts kk tpos) (ItzTLL K a b c) [z, TI, TO, i1, i2, i3] z (ZnTLL z TI TO i1 i2 i3 a b c) where
  mem := by simp
  obj := fun i h st m hm => by
    obtain ⟨hz, hTI, ⟨x, y, u, hTO⟩, ⟨o1, e1, _, d1⟩, ⟨o2, e2, _, d2⟩, ⟨o3, e3, _, d3⟩⟩ := st
    have e' : m = z ∨ m = TI ∨ m = TO ∨ m = i1 ∨ m = i2 ∨ m = i3 := by simpa using hm
    rcases e' with q | q | q | q | q | q
    · rw [q]; exact ⟨_, hz, fun v q => nomatch q⟩
    · rw [q]; exact ⟨_, hTI, fun v q => nomatch q⟩
    · rw [q]; exact ⟨_, hTO, fun v q => nomatch q⟩
    · rw [q]; exact ⟨o1, e1, fun v q => by rw [d1] at q; cases q⟩
    · rw [q]; exact ⟨o2, e2, fun v q => by rw [d2] at q; cases q⟩
    · rw [q]; exact ⟨o3, e3, fun v q => by rw [d3] at q; cases q⟩
  keep := fun i h h' st k => by
    obtain ⟨hz, hTI, ⟨x, y, u, hTO⟩, h1, h2, h3⟩ := st
    exact ⟨k z (by simp) _ hz, k TI (by simp) _ hTI, ⟨x, y, u, k TO (by simp) _ hTO⟩, h1.at fun o q => k i1 (by simp) o q, h2.at fun o q => k i2 (by simp) o q, h3.at fun o q => k i3 (by simp) o q⟩
  item := by
    intro X hP hw hK hc i pins s σ H E I hf st hg
    subst hP hw hK
    obtain ⟨hz, hTI, hTO, h1, h2, h3⟩ := st
    obtain ⟨xs, ys, zs, hqx, hqy, hqz, hlt⟩ := hg
    obtain ⟨its, rv, p, _⟩ := I.tuple hqx
    obtain ⟨its2, rv2, p2, _⟩ := I.list hqy
    obtain ⟨its3, rv3, p3, _⟩ := I.list hqz
    have hh : X.A.handled = none := I.ok.hd hc
    have W := GoesN.zip3 (prog := X.prog) (w := X.w) (A := X.A) (elts := elts) (x1 := kk) (pos := tpos) S (Draws.tuple (A := X.A.in1) hh i1 a na its.toArray) (Draws.list (A := X.A.in1) hh i2 b nb its2.toArray) (Draws.list (A := X.A.in1) hh i3 c nc its3.toArray)
    have l1 := rv.length
    have l2 := rv2.length
    have l3 := rv3.length
    refine W.goes i s (fun u s2 => ∃ x H', Inv X pins σ H' s2 ∧ RelV x u ∧ (ItzTLL X.K a b c).yld i H x H' ∧ ZnTLL z TI TO i1 i2 i3 a b c (i + 1) s2.heap ∧ ∀ b ∈ [z, TI, TO, i1, i2, i3], H' b = none) E (by simp only [List.size_toArray]; omega) ⟨hz, hTI, hTO, ⟨h1, p⟩, ⟨h2, p2.isList⟩, ⟨h3, p3.isList⟩⟩ fun v h' tk hY st' hk htk => ?_
    obtain ⟨T, u1, u2, u3, rfl, hT, e1, e2, e3, hTt⟩ := hY
    have hx : xs[i]? = some (xs[i]'(by omega)) := List.getElem?_eq_getElem (by omega)
    have hy : ys[i]? = some (ys[i]'(by omega)) := List.getElem?_eq_getElem (by omega)
    have hw' : zs[i]? = some (zs[i]'(by omega)) := List.getElem?_eq_getElem (by omega)
    obtain ⟨v1, hu1, r1⟩ := rv.get hx
    obtain ⟨v2, hu2, r2⟩ := rv2.get hy
    obtain ⟨v3, hu3, r3⟩ := rv3.get hw'
    have q1 : v1 = u1 := by
      have : its.toArray[i]? = some v1 := by simpa using hu1
      rw [this] at e1
      exact Option.some.inj e1
    have q2 : v2 = u2 := by
      have : its2.toArray[i]? = some v2 := by simpa using hu2
      rw [this] at e2
      exact Option.some.inj e2
    have q3 : v3 = u3 := by
      have : its3.toArray[i]? = some v3 := by simpa using hu3
      rw [this] at e3
      exact Option.some.inj e3
    subst q1 q2 q3
    have new : ObjOk X.prog X.w (upd H T (.tup [xs[i]'(by omega), ys[i]'(by omega), zs[i]'(by omega)])) h' T (.tup [xs[i]'(by omega), ys[i]'(by omega), zs[i]'(by omega)]) := ⟨by show 3 ≤ sizeLine; decide, [v1, v2, v3], .cons r1 (.cons r2 (.cons r3 .nil)), hTt⟩
    have hf' : ∀ m ∈ [z, TO, i1, i2, i3], FpOk X pins H m := fun m hm => hf m (by
      have e' : m = z ∨ m = TO ∨ m = i1 ∨ m = i2 ∨ m = i3 := by simpa using hm
      rcases e' with q | q | q | q | q <;> simp [q])
    have I1 := I.turnedNew (t' := tk) (ch := [z, TO, i1, i2, i3]) hk hf' hT new
    refine ⟨.ref T, _, I1, rfl, ⟨T, _, _, _, rfl, I.hok.fresh hT, rfl, fun l hl => by rw [I.tuple_inj hl hqx]; exact hx, fun l hl => by rw [I.list_inj hl hqy]; exact hy, fun l hl => by rw [I.list_inj hl hqz]; exact hw'⟩, ⟨st'.1, st'.2.1, st'.2.2.1, st'.2.2.2.1.1, st'.2.2.2.2.1.1, st'.2.2.2.2.2.1⟩, fun m hm => ?_⟩
    have e' : m = z ∨ m = TI ∨ m = TO ∨ m = i1 ∨ m = i2 ∨ m = i3 := by simpa using hm
    have hlt2 : m < s.heap.objs.size := by
      obtain ⟨x, y, u, hTO⟩ := hTO
      rcases e' with q | q | q | q | q | q
      · rw [q]; exact Heap.lt_size hz
      · rw [q]; exact Heap.lt_size hTI
      · rw [q]; exact Heap.lt_size hTO
      · rw [q]; obtain ⟨_, e1, _⟩ := h1; exact Heap.lt_size e1
      · rw [q]; obtain ⟨_, e2, _⟩ := h2; exact Heap.lt_size e2
      · rw [q]; obtain ⟨_, e3, _⟩ := h3; exact Heap.lt_size e3
    rw [upd_ne (Nat.ne_of_lt (Nat.lt_of_lt_of_le hlt2 hT))]
    exact (hf m hm).1
  done := by
    intro X hP hw hK hc i pins s σ H E I hf st hg
    subst hP hw hK
    obtain ⟨hz, hTI, hTO, h1, h2, h3⟩ := st
    obtain ⟨xs, ys, zs, hqx, hqy, hqz, hend⟩ := hg
    obtain ⟨its, rv, p, _⟩ := I.tuple hqx
    obtain ⟨its2, rv2, p2, _⟩ := I.list hqy
    obtain ⟨its3, rv3, p3, _⟩ := I.list hqz
    have hh : X.A.handled = none := I.ok.hd hc
    have W := GoesN.zip3 (prog := X.prog) (w := X.w) (A := X.A) (elts := elts) (x1 := kk) (pos := tpos) S (Draws.tuple (A := X.A.in1) hh i1 a na its.toArray) (Draws.list (A := X.A.in1) hh i2 b nb its2.toArray) (Draws.list (A := X.A.in1) hh i3 c nc its3.toArray)
    have l1 := rv.length
    have l2 := rv2.length
    have l3 := rv3.length
    have en : i = min (min its.toArray.size its2.toArray.size) its3.toArray.size := by simp only [List.size_toArray]; omega
    subst en
    have hf' : ∀ m ∈ [z, TO, i1, i2, i3], FpOk X pins H m := fun m hm => hf m (by
      have e' : m = z ∨ m = TO ∨ m = i1 ∨ m = i2 ∨ m = i3 := by simpa using hm
      rcases e' with q | q | q | q | q <;> simp [q])
    exact W.stops s (fun s1 => Inv X pins σ H s1) E ⟨hz, hTI, hTO, ⟨h1, p⟩, ⟨h2, p2.isList⟩, ⟨h3, p3.isList⟩⟩ fun h' tk hk htk => I.turnedL (t' := tk) (ch := [z, TO, i1, i2, i3]) hk hf'
  self := fun A i s Q E st h => wpAny_pyIter_zip st.1 h
def iZipTLL (K : PySem.W.Frag) (ta : TA) : TI := fun σ H R => ta σ H fun vs H1 => ∃ a b c xs ys zs, vs = [.ref a, .ref b, .ref c] ∧ SqT K H1 a xs ∧ SqL K H1 b ys ∧ SqL K H1 c zs ∧ R (ItzTLL K a b c) H1
theorem pi_zipTLL {X : Cx} {e e2 e3 : Expr} {ta : TA} {p pos tpos : Pos} {elts : List Expr} {kk : Nat} (hg : Gl X "zip") (hm : X.mg "zip" = none) (ha : PA X [e, e2, e3] ta)
    (hs : starEach [e, e2, e3] X.env = (false, eval e X.env) :: starEach [e2, e3] X.env := by rfl) (hpl : (backTo pos (starEach [e2, e3] X.env)).any (·.1) = false := by rfl) :
    PI X (.Tuple elts kk tpos) (.Call (.Name "zip" p) [e, e2, e3] [] pos) (iZipTLL X.K ta) := by
  refine ⟨fun pins s σ H R I h => ?_⟩
  refine Call_ (ld_blt I hg hm PyProof.Rows.boot_zip (PyProof.Rows.callWith_type1 (thn (ha.run pos pins s σ H _ I h) fun us s1 ⟨vs, H1, I1, r1, q1⟩ => ?_) hs hpl))
  obtain ⟨a, b, c, xs, ys, zs, ex, hqx, hqy, hqz, q⟩ := q1
  subst ex
  cases r1 with
  | cons r rr =>
    cases rr with
    | cons r' rr =>
      cases rr with
      | cons r'' rr =>
        cases rr
        cases r
        cases r'
        cases r''
        have fresh6 : ∀ m, m ∈ [s1.heap.objs.size + 5, s1.heap.objs.size + 3, s1.heap.objs.size + 4, s1.heap.objs.size, s1.heap.objs.size + 1, s1.heap.objs.size + 2] → FpOk X pins H1 m := fun m hcm => by
          have e' : m = s1.heap.objs.size + 5 ∨ m = s1.heap.objs.size + 3 ∨ m = s1.heap.objs.size + 4 ∨ m = s1.heap.objs.size ∨ m = s1.heap.objs.size + 1 ∨ m = s1.heap.objs.size + 2 := by simpa using hcm
          have hle : s1.heap.objs.size ≤ m := by
            rcases e' with z | z | z | z | z | z
            · rw [z]; exact Nat.le_add_right _ _
            · rw [z]; exact Nat.le_add_right _ _
            · rw [z]; exact Nat.le_add_right _ _
            · rw [z]; exact Nat.le_refl _
            · rw [z]; exact Nat.le_add_right _ _
            · rw [z]; exact Nat.le_add_right _ _
          exact I1.fpOk hle (I1.hok.fresh hle)
        obtain ⟨its, rv, p1, _⟩ := I1.tuple hqx
        obtain ⟨its2, rv2, p2, _⟩ := I1.list hqy
        obtain ⟨its3, rv3, p3, _⟩ := I1.list hqz
        obtain ⟨o1, ho1, _⟩ := id p1
        obtain ⟨o2, _, ho2, _⟩ := id p2
        obtain ⟨o3, _, ho3, _⟩ := id p3
        have la := Heap.lt_size ho1
        have lb := Heap.lt_size ho2
        have lc := Heap.lt_size ho3
        refine zip_begins3 (begins_tuple a its.toArray) (begins_list b its2.toArray) (begins_list c its3.toArray) p1 p2.isList p3.isList fun h' hz hTI hTO h1 h2 h3 hsz hk => wpAny_pyIter_zip hz ?_
        have I2 : Inv X pins σ H1 { s1 with heap := h' } := I1.kept (t' := s1.toks) hk
        have S : ZipSep3 (s1.heap.objs.size + 5) (s1.heap.objs.size + 3) (s1.heap.objs.size + 4) s1.heap.objs.size (s1.heap.objs.size + 1) (s1.heap.objs.size + 2) [s1.heap.objs.size, a] [s1.heap.objs.size + 1, b] [s1.heap.objs.size + 2, c] :=
          zip_sep3 (fun m hm => by rw [List.mem_singleton.mp hm]; exact la) (fun m hm => by rw [List.mem_singleton.mp hm]; exact lb) (fun m hm => by rw [List.mem_singleton.mp hm]; exact lc)
        exact ⟨s1.heap.objs.size + 5, [s1.heap.objs.size + 5, s1.heap.objs.size + 3, s1.heap.objs.size + 4, s1.heap.objs.size, s1.heap.objs.size + 1, s1.heap.objs.size + 2], _, _, H1, rfl, I2,
          turn_zipTLL S (Nat.ne_of_lt la) (Nat.ne_of_lt (Nat.lt_of_lt_of_le lb (Nat.le_add_right _ _))) (Nat.ne_of_lt (Nat.lt_of_lt_of_le lc (Nat.le_add_right _ _))), ⟨hz, hTI, ⟨_, _, _, hTO⟩, ⟨_, h1, rfl, rfl⟩, ⟨_, h2, rfl, rfl⟩, ⟨_, h3, rfl, rfl⟩⟩, fresh6, q⟩
def YTripTLL (xs ys zs : Nat → Option V) : Nat → Hp → V → Hp → Prop := fun i H v H' => ∃ T x y z, v = .ref T ∧ H T = none ∧ H' = upd H T (.tup [x, y, z]) ∧ xs i = some x ∧ ys i = some y ∧ zs i = some z
theorem walk_zipTLL {K : PySem.W.Frag} {a b c : Addr} {xs ys zs : List V} {n : Nat} (hn : n = min (min xs.length ys.length) zs.length) : Walk (ItzTLL K a b c) n (fun H => SqT K H a xs ∧ SqL K H b ys ∧ SqL K H c zs) (YTripTLL (fun i => xs[i]?) (fun i => ys[i]?) (fun i => zs[i]?)) := by
  subst hn
  refine ⟨fun i _ hi q => ⟨xs, ys, zs, q.1, q.2.1, q.2.2, hi⟩, fun _ q => ⟨xs, ys, zs, q.1, q.2.1, q.2.2, rfl⟩, fun i H v H' _ q y => ?_⟩
  obtain ⟨T, x, y1, z, h1, h2, h3, h4, h5, h6⟩ := y
  exact ⟨T, x, y1, z, h1, h2, h3, h4 xs q.1, h5 ys q.2.1, h6 zs q.2.2⟩
end RU
/-! ### sorted of a tuple of whole numbers -/
namespace HS
open PySem PySem.Spec PyProof.Rows L2
section
variable {X : Cx}
theorem collect_t {prog : Program} {w : World} {A : Around} {E : Value → Shared → Prop} {s : Shared} {Q : List Value → Shared → Prop} (c0 : Addr) {u : Obj} {xs : Array Value} {m : Nat} (g1 : s.heap.get? c0 = some u) (g2 : u.cls = .type "tuple") (g3 : u.data = .seq xs m) (z : xs.size ≤ sizeLine)
    (hQ : ∀ h', (∀ b o, s.heap.get? b = some o → h'.get? b = some o) → s.heap.objs.size ≤ h'.objs.size → Q xs.toList { s with heap := h' }) : wpAny (model prog w) A (collect (.ref c0)) Q E s := by
  have e0 : ∀ g : Heap, g = s.heap.push { cls := .type "list", data := .seq ([] : List Value).toArray } → g.get? s.heap.objs.size = some { cls := .type "list", data := .seq #[] 0 } ∧ (∀ b o, s.heap.get? b = some o → g.get? b = some o) ∧ s.heap.objs.size < g.objs.size := fun g e => by
    have x1 : g.get? s.heap.objs.size = some { cls := .type "list", data := .seq #[] 0 } := by rw [e]; exact Heap.get?_push_size _ rfl
    exact ⟨x1, fun b o k => by rw [e]; exact Heap.get?_push_of_some _ k, Heap.lt_size x1⟩
  obtain ⟨x1, x2, x3⟩ := e0 _ rfl
  unfold collect
  apply wpAny_bind
  apply wpAny_runValue
  apply codeAny_builtin F.entry_proto_collect
  rw [Around.under_plainId F.plain_proto_collect _]
  change wpAny _ A.in1 (newList [] >>= fun v => again (.builtin "list.__iadd__" ⟨[v, .ref c0], []⟩)) _ _ s
  apply wpAny_bind
  refine (wpAny_newObj_type ?_)
  apply wpAny_pure
  refine ⟨plainId_quiet F.plain_list_iadd _, ?_⟩
  apply codeAny_builtin F.entry_list_iadd
  rw [Around.under_plainId F.plain_list_iadd _]
  generalize s.heap.push { cls := .type "list", data := .seq ([] : List Value).toArray } = g at x1 x2 x3 ⊢
  change wpAny _ A.in1 (Builtin.List.listExtendWith (.ref s.heap.objs.size) (.ref c0) (.ref s.heap.objs.size)) _ _ { s with heap := g }
  have y1 := Heap.get?_update_self (Obj.mapSeq (· ++ xs)) x1 rfl
  have y2 : Q xs.toList { s with heap := g.update s.heap.objs.size (Obj.mapSeq (· ++ xs)) } := by
    refine hQ _ (fun b o k => ?_) ?_
    · exact (Heap.get?_update_other _ _ (Nat.ne_of_gt (Heap.lt_size k))).trans (x2 b o k)
    · rw [Heap.size_update]
      exact Nat.le_of_lt x3
  have y3 : ∀ (G : Value → Sem (List Value)), G = (fun v => match v with
      | Value.ref a => do
        match (← load a).data with
          | Data.seq ys _ => pure ys.toList
          | _ => unsupported "internal:collect"
      | _ => unsupported "internal:collect") → wpAny (model prog w) A (G (.ref s.heap.objs.size)) Q E { s with heap := g.update s.heap.objs.size (Obj.mapSeq (· ++ xs)) } := fun G e => by
    rw [e]
    change wpAny _ A (load s.heap.objs.size >>= _) _ _ _
    apply wpAny_bind
    apply wpAny_load y1
    apply wpAny_pure
    have e9 : ((#[] : Array Value) ++ xs).toList = xs.toList := by simp
    change Q ((#[] : Array Value) ++ xs).toList _
    rw [e9]
    exact y2
  refine wpAny_mono (wpAny_extend_seq (hsz := z) (A := A) (R := fun r t => r = .ok (.ret (.ref s.heap.objs.size)) ∧ t = { s with heap := g.update s.heap.objs.size (Obj.mapSeq (· ++ xs)) }) (s := { s with heap := g }) _ c0 _ 0 (.inr rfl) x1 (x2 _ _ g1) g2 g3 ⟨rfl, rfl⟩) (fun f t k => ?_) (fun f t k => ?_)
  · cases f with
    | done f =>
      obtain ⟨e, rfl⟩ := k
      cases e
      exact y3 _ rfl
    | again c => exact ⟨k.1, codeAny_mono k.2 fun r t' kr => by obtain ⟨rfl, rfl⟩ := kr; exact y3 _ rfl⟩
  · exact absurd k.1 (by simp)
def rSortTI (K : PySem.W.Frag) : List V → Hp → VK → Prop := fun vs H Q => ∃ (a : Addr) (ns : List Int), vs = [V.ref a] ∧ SqT K H a (ns.map V.int) ∧
  ∀ (ns' : List Int) (p : Addr) (H' : Hp), L2.Same H H' → ns'.Perm ns → ns'.Pairwise (· ≤ ·) → H p = none → H' p = some (.lst (ns'.map V.int)) → Q (.ref p) H'
theorem cr_sortedTI : CallR X (.builtin "sorted") (rSortTI X.K) := by
  intro pins s σ H vs us Q I r h
  obtain ⟨a, ns, rfl, hs, q⟩ := h
  obtain ⟨its, rv, ⟨o, ho, hc, n, hd⟩, hz⟩ := I.tuple hs
  rw [Vals.ref1 r]
  have hi := rv.ints
  have hlen := rv.length
  have small : its.toArray.toList.length ≤ sizeLine := by
    show its.length ≤ sizeLine
    omega
  apply Calls.call_function_entry kind_sorted plain_sorted entry_sorted (args_sorted1 _)
  unfold Builtin.«sorted»
  apply wpAny_bind (m := checkCount "sorted" 1 1 _)
  apply wpAny_pure
  apply wpAny_bind
  apply collect_t a ho hc hd (by rw [List.size_toArray]; omega)
  intro h1 k1 big
  apply wpAny_bind
  apply wpAny_newList _ small
  have new : (h1.push (seqObj "list" its.toArray 0)).get? h1.objs.size = some (seqObj "list" its.toArray 0) := Heap.get?_push_size _ rfl
  have keep : ∀ b o, s.heap.get? b = some o → b ≠ h1.objs.size ∧ (h1.push (seqObj "list" its.toArray 0)).get? b = some o := fun b o e => ⟨Nat.ne_of_lt (Nat.lt_of_lt_of_le (Heap.lt_size e) big), Heap.get?_push_of_some _ (k1 b o e)⟩
  have lt1 : h1.objs.size < (h1.push (seqObj "list" its.toArray 0)).objs.size := Heap.lt_size new
  generalize h1.push (seqObj "list" its.toArray 0) = h2 at new keep lt1
  apply wpAny_bind
  apply wpAny_holding
  refine wpAny_call_entry slot_list_sort ⟨_, new, rfl⟩ entry_list_sort (SrtO.list_sort_ord SrtO.swo_int new (by omega) (fun g => SrtO.ints_sortable hi g) fun out o1 o2 => ⟨_, rfl, ?_⟩) (args_list_sort _)
  obtain ⟨k2, k3, k4⟩ := SrtO.ints_out hi o1 o2
  obtain ⟨ep, he'⟩ := PyProof.Rows.sortedHeap_at (vs := its) (out := out.toArray) new
  have l9 : ((out.map SrtO.iv).map V.int).length ≤ sizeLine := by
    rw [List.length_map, k3.length_eq]
    rw [List.length_map] at hz
    exact hz
  refine wpAny_pure ⟨_, rfl, .ref _, upd H h1.objs.size (.lst ((out.map SrtO.iv).map V.int)), I.laid (t' := s.toks) (fun b o e => ?_) big ⟨l9, out, ep, vals_of_ints k2, he'⟩, rfl, ?_⟩
  · exact (PyProof.Rows.sortedHeap_old (keep b o e).1 (Heap.lt_size (keep b o e).2)).trans (keep b o e).2
  · exact q _ _ _ (HX.same_new (I.hok.fresh big)) k3 k4 (I.hok.fresh big) upd_same
end
end HS

/-! ### zip of three lists -/
namespace RU
open PySem PySem.Spec PyProof.Rows L2 HX RZ
def ItzLLL (K : PySem.W.Frag) (a b c : Addr) : It :=
  ⟨fun i H => ∃ (xs ys zs : List V), SqL K H a xs ∧ SqL K H b ys ∧ SqL K H c zs ∧ i < min (min xs.length ys.length) zs.length,
    fun i H v H' => ∃ T x y z, v = .ref T ∧ H T = none ∧ H' = upd H T (.tup [x, y, z]) ∧ (∀ xs, SqL K H a xs → xs[i]? = some x) ∧ (∀ ys, SqL K H b ys → ys[i]? = some y) ∧ ∀ zs, SqL K H c zs → zs[i]? = some z,
    fun i H => ∃ xs ys zs : List V, SqL K H a xs ∧ SqL K H b ys ∧ SqL K H c zs ∧ i = min (min xs.length ys.length) zs.length⟩
def ZnLLL (z TI TO i1 i2 i3 a b c : Addr) (i : Nat) (h : Heap) : Prop := IsZip h z TI TO .none ∧ IsTupOf3 h TI (.ref i1) (.ref i2) (.ref i3) ∧ (∃ x y u, IsTupOf3 h TO x y u) ∧ h.IsListIter i1 a i ∧ h.IsListIter i2 b i ∧ h.IsListIter i3 c i
theorem turn_zipLLL {P : Program} {w : World} {K : PySem.W.Frag} {elts : List Expr} {kk : Nat} {tpos : Pos} {a b c z TI TO i1 i2 i3 : Addr} (S : ZipSep3 z TI TO i1 i2 i3 [i1, a] [i2, b] [i3, c]) (na : a ≠ i1) (nb : b ≠ i2) (nc : c ≠ i3) :
    Turn P w K (.Tuple elts kk tpos) (ItzLLL K a b c) [z, TI, TO, i1, i2, i3] z (ZnLLL z TI TO i1 i2 i3 a b c) where
  mem := by simp
  obj := fun i h st m hm => by
    obtain ⟨hz, hTI, ⟨x, y, u, hTO⟩, ⟨o1, e1, _, d1⟩, ⟨o2, e2, _, d2⟩, ⟨o3, e3, _, d3⟩⟩ := st
    have e' : m = z ∨ m = TI ∨ m = TO ∨ m = i1 ∨ m = i2 ∨ m = i3 := by simpa using hm
    rcases e' with q | q | q | q | q | q
    · rw [q]; exact ⟨_, hz, fun v q => nomatch q⟩
    · rw [q]; exact ⟨_, hTI, fun v q => nomatch q⟩
    · rw [q]; exact ⟨_, hTO, fun v q => nomatch q⟩
    · rw [q]; exact ⟨o1, e1, fun v q => by rw [d1] at q; cases q⟩
    · rw [q]; exact ⟨o2, e2, fun v q => by rw [d2] at q; cases q⟩
    · rw [q]; exact ⟨o3, e3, fun v q => by rw [d3] at q; cases q⟩
  keep := fun i h h' st k => by
    obtain ⟨hz, hTI, ⟨x, y, u, hTO⟩, h1, h2, h3⟩ := st
    exact ⟨k z (by simp) _ hz, k TI (by simp) _ hTI, ⟨x, y, u, k TO (by simp) _ hTO⟩, h1.at fun o q => k i1 (by simp) o q, h2.at fun o q => k i2 (by simp) o q, h3.at fun o q => k i3 (by simp) o q⟩
  item := by
    intro X hP hw hK hc i pins s σ H E I hf st hg
    subst hP hw hK
    obtain ⟨hz, hTI, hTO, h1, h2, h3⟩ := st
    obtain ⟨xs, ys, zs, hqx, hqy, hqz, hlt⟩ := hg
    obtain ⟨its, rv, p, _⟩ := I.list hqx
    obtain ⟨its2, rv2, p2, _⟩ := I.list hqy
    obtain ⟨its3, rv3, p3, _⟩ := I.list hqz
    have hh : X.A.handled = none := I.ok.hd hc
    have W := GoesN.zip3 (prog := X.prog) (w := X.w) (A := X.A) (elts := elts) (x1 := kk) (pos := tpos) S (Draws.list (A := X.A.in1) hh i1 a na its.toArray) (Draws.list (A := X.A.in1) hh i2 b nb its2.toArray) (Draws.list (A := X.A.in1) hh i3 c nc its3.toArray)
    have l1 := rv.length
    have l2 := rv2.length
    have l3 := rv3.length
    refine W.goes i s (fun u s2 => ∃ x H', Inv X pins σ H' s2 ∧ RelV x u ∧ (ItzLLL X.K a b c).yld i H x H' ∧ ZnLLL z TI TO i1 i2 i3 a b c (i + 1) s2.heap ∧ ∀ b ∈ [z, TI, TO, i1, i2, i3], H' b = none) E (by simp only [List.size_toArray]; omega) ⟨hz, hTI, hTO, ⟨h1, p.isList⟩, ⟨h2, p2.isList⟩, ⟨h3, p3.isList⟩⟩ fun v h' tk hY st' hk htk => ?_
    obtain ⟨T, u1, u2, u3, rfl, hT, e1, e2, e3, hTt⟩ := hY
    have hx : xs[i]? = some (xs[i]'(by omega)) := List.getElem?_eq_getElem (by omega)
    have hy : ys[i]? = some (ys[i]'(by omega)) := List.getElem?_eq_getElem (by omega)
    have hw' : zs[i]? = some (zs[i]'(by omega)) := List.getElem?_eq_getElem (by omega)
    obtain ⟨v1, hu1, r1⟩ := rv.get hx
    obtain ⟨v2, hu2, r2⟩ := rv2.get hy
    obtain ⟨v3, hu3, r3⟩ := rv3.get hw'
    have q1 : v1 = u1 := by
      have : its.toArray[i]? = some v1 := by simpa using hu1
      rw [this] at e1
      exact Option.some.inj e1
    have q2 : v2 = u2 := by
      have : its2.toArray[i]? = some v2 := by simpa using hu2
      rw [this] at e2
      exact Option.some.inj e2
    have q3 : v3 = u3 := by
      have : its3.toArray[i]? = some v3 := by simpa using hu3
      rw [this] at e3
      exact Option.some.inj e3
    subst q1 q2 q3
    have new : ObjOk X.prog X.w (upd H T (.tup [xs[i]'(by omega), ys[i]'(by omega), zs[i]'(by omega)])) h' T (.tup [xs[i]'(by omega), ys[i]'(by omega), zs[i]'(by omega)]) := ⟨by show 3 ≤ sizeLine; decide, [v1, v2, v3], .cons r1 (.cons r2 (.cons r3 .nil)), hTt⟩
    have hf' : ∀ m ∈ [z, TO, i1, i2, i3], FpOk X pins H m := fun m hm => hf m (by
      have e' : m = z ∨ m = TO ∨ m = i1 ∨ m = i2 ∨ m = i3 := by simpa using hm
      rcases e' with q | q | q | q | q <;> simp [q])
    have I1 := I.turnedNew (t' := tk) (ch := [z, TO, i1, i2, i3]) hk hf' hT new
    refine ⟨.ref T, _, I1, rfl, ⟨T, _, _, _, rfl, I.hok.fresh hT, rfl, fun l hl => by rw [I.list_inj hl hqx]; exact hx, fun l hl => by rw [I.list_inj hl hqy]; exact hy, fun l hl => by rw [I.list_inj hl hqz]; exact hw'⟩, ⟨st'.1, st'.2.1, st'.2.2.1, st'.2.2.2.1.1, st'.2.2.2.2.1.1, st'.2.2.2.2.2.1⟩, fun m hm => ?_⟩
    have e' : m = z ∨ m = TI ∨ m = TO ∨ m = i1 ∨ m = i2 ∨ m = i3 := by simpa using hm
    have hlt2 : m < s.heap.objs.size := by
      obtain ⟨x, y, u, hTO⟩ := hTO
      rcases e' with q | q | q | q | q | q
      · rw [q]; exact Heap.lt_size hz
      · rw [q]; exact Heap.lt_size hTI
      · rw [q]; exact Heap.lt_size hTO
      · rw [q]; obtain ⟨_, e1, _⟩ := h1; exact Heap.lt_size e1
      · rw [q]; obtain ⟨_, e2, _⟩ := h2; exact Heap.lt_size e2
      · rw [q]; obtain ⟨_, e3, _⟩ := h3; exact Heap.lt_size e3
    rw [upd_ne (Nat.ne_of_lt (Nat.lt_of_lt_of_le hlt2 hT))]
    exact (hf m hm).1
  done := by
    intro X hP hw hK hc i pins s σ H E I hf st hg
    subst hP hw hK
    obtain ⟨hz, hTI, hTO, h1, h2, h3⟩ := st
    obtain ⟨xs, ys, zs, hqx, hqy, hqz, hend⟩ := hg
    obtain ⟨its, rv, p, _⟩ := I.list hqx
    obtain ⟨its2, rv2, p2, _⟩ := I.list hqy
    obtain ⟨its3, rv3, p3, _⟩ := I.list hqz
    have hh : X.A.handled = none := I.ok.hd hc
    have W := GoesN.zip3 (prog := X.prog) (w := X.w) (A := X.A) (elts := elts) (x1 := kk) (pos := tpos) S (Draws.list (A := X.A.in1) hh i1 a na its.toArray) (Draws.list (A := X.A.in1) hh i2 b nb its2.toArray) (Draws.list (A := X.A.in1) hh i3 c nc its3.toArray)
    have l1 := rv.length
    have l2 := rv2.length
    have l3 := rv3.length
    have en : i = min (min its.toArray.size its2.toArray.size) its3.toArray.size := by simp only [List.size_toArray]; omega
    subst en
    have hf' : ∀ m ∈ [z, TO, i1, i2, i3], FpOk X pins H m := fun m hm => hf m (by
      have e' : m = z ∨ m = TO ∨ m = i1 ∨ m = i2 ∨ m = i3 := by simpa using hm
      rcases e' with q | q | q | q | q <;> simp [q])
    exact W.stops s (fun s1 => Inv X pins σ H s1) E ⟨hz, hTI, hTO, ⟨h1, p.isList⟩, ⟨h2, p2.isList⟩, ⟨h3, p3.isList⟩⟩ fun h' tk hk htk => I.turnedL (t' := tk) (ch := [z, TO, i1, i2, i3]) hk hf'
  self := fun A i s Q E st h => wpAny_pyIter_zip st.1 h
def iZipLLL (K : PySem.W.Frag) (ta : TA) : TI := fun σ H R => ta σ H fun vs H1 => ∃ a b c xs ys zs, vs = [.ref a, .ref b, .ref c] ∧ SqL K H1 a xs ∧ SqL K H1 b ys ∧ SqL K H1 c zs ∧ R (ItzLLL K a b c) H1
theorem pi_zipLLL {X : Cx} {e e2 e3 : Expr} {ta : TA} {p pos tpos : Pos} {elts : List Expr} {kk : Nat} (hg : Gl X "zip") (hm : X.mg "zip" = none) (ha : PA X [e, e2, e3] ta)
    (hs : starEach [e, e2, e3] X.env = (false, eval e X.env) :: starEach [e2, e3] X.env := by rfl) (hpl : (backTo pos (starEach [e2, e3] X.env)).any (·.1) = false := by rfl) :
    PI X (.Tuple elts kk tpos) (.Call (.Name "zip" p) [e, e2, e3] [] pos) (iZipLLL X.K ta) := by
  refine ⟨fun pins s σ H R I h => ?_⟩
  refine Call_ (ld_blt I hg hm PyProof.Rows.boot_zip (PyProof.Rows.callWith_type1 (thn (ha.run pos pins s σ H _ I h) fun us s1 ⟨vs, H1, I1, r1, q1⟩ => ?_) hs hpl))
  obtain ⟨a, b, c, xs, ys, zs, ex, hqx, hqy, hqz, q⟩ := q1
  subst ex
  cases r1 with
  | cons r rr =>
    cases rr with
    | cons r' rr =>
      cases rr with
      | cons r'' rr =>
        cases rr
        cases r
        cases r'
        cases r''
        have fresh6 : ∀ m, m ∈ [s1.heap.objs.size + 5, s1.heap.objs.size + 3, s1.heap.objs.size + 4, s1.heap.objs.size, s1.heap.objs.size + 1, s1.heap.objs.size + 2] → FpOk X pins H1 m := fun m hcm => by
          have e' : m = s1.heap.objs.size + 5 ∨ m = s1.heap.objs.size + 3 ∨ m = s1.heap.objs.size + 4 ∨ m = s1.heap.objs.size ∨ m = s1.heap.objs.size + 1 ∨ m = s1.heap.objs.size + 2 := by simpa using hcm
          have hle : s1.heap.objs.size ≤ m := by
            rcases e' with z | z | z | z | z | z
            · rw [z]; exact Nat.le_add_right _ _
            · rw [z]; exact Nat.le_add_right _ _
            · rw [z]; exact Nat.le_add_right _ _
            · rw [z]; exact Nat.le_refl _
            · rw [z]; exact Nat.le_add_right _ _
            · rw [z]; exact Nat.le_add_right _ _
          exact I1.fpOk hle (I1.hok.fresh hle)
        obtain ⟨its, rv, p1, _⟩ := I1.list hqx
        obtain ⟨its2, rv2, p2, _⟩ := I1.list hqy
        obtain ⟨its3, rv3, p3, _⟩ := I1.list hqz
        obtain ⟨o1, _, ho1, _⟩ := id p1
        obtain ⟨o2, _, ho2, _⟩ := id p2
        obtain ⟨o3, _, ho3, _⟩ := id p3
        have la := Heap.lt_size ho1
        have lb := Heap.lt_size ho2
        have lc := Heap.lt_size ho3
        refine zip_begins3 (begins_list a its.toArray) (begins_list b its2.toArray) (begins_list c its3.toArray) p1.isList p2.isList p3.isList fun h' hz hTI hTO h1 h2 h3 hsz hk => wpAny_pyIter_zip hz ?_
        have I2 : Inv X pins σ H1 { s1 with heap := h' } := I1.kept (t' := s1.toks) hk
        have S : ZipSep3 (s1.heap.objs.size + 5) (s1.heap.objs.size + 3) (s1.heap.objs.size + 4) s1.heap.objs.size (s1.heap.objs.size + 1) (s1.heap.objs.size + 2) [s1.heap.objs.size, a] [s1.heap.objs.size + 1, b] [s1.heap.objs.size + 2, c] :=
          zip_sep3 (fun m hm => by rw [List.mem_singleton.mp hm]; exact la) (fun m hm => by rw [List.mem_singleton.mp hm]; exact lb) (fun m hm => by rw [List.mem_singleton.mp hm]; exact lc)
        exact ⟨s1.heap.objs.size + 5, [s1.heap.objs.size + 5, s1.heap.objs.size + 3, s1.heap.objs.size + 4, s1.heap.objs.size, s1.heap.objs.size + 1, s1.heap.objs.size + 2], _, _, H1, rfl, I2,
          turn_zipLLL S (Nat.ne_of_lt la) (Nat.ne_of_lt (Nat.lt_of_lt_of_le lb (Nat.le_add_right _ _))) (Nat.ne_of_lt (Nat.lt_of_lt_of_le lc (Nat.le_add_right _ _))), ⟨hz, hTI, ⟨_, _, _, hTO⟩, ⟨_, h1, rfl, rfl⟩, ⟨_, h2, rfl, rfl⟩, ⟨_, h3, rfl, rfl⟩⟩, fresh6, q⟩
def YTripLLL (xs ys zs : Nat → Option V) : Nat → Hp → V → Hp → Prop := fun i H v H' => ∃ T x y z, v = .ref T ∧ H T = none ∧ H' = upd H T (.tup [x, y, z]) ∧ xs i = some x ∧ ys i = some y ∧ zs i = some z
theorem walk_zipLLL {K : PySem.W.Frag} {a b c : Addr} {xs ys zs : List V} {n : Nat} (hn : n = min (min xs.length ys.length) zs.length) : Walk (ItzLLL K a b c) n (fun H => SqL K H a xs ∧ SqL K H b ys ∧ SqL K H c zs) (YTripLLL (fun i => xs[i]?) (fun i => ys[i]?) (fun i => zs[i]?)) := by
  subst hn
  refine ⟨fun i _ hi q => ⟨xs, ys, zs, q.1, q.2.1, q.2.2, hi⟩, fun _ q => ⟨xs, ys, zs, q.1, q.2.1, q.2.2, rfl⟩, fun i H v H' _ q y => ?_⟩
  obtain ⟨T, x, y1, z, h1, h2, h3, h4, h5, h6⟩ := y
  exact ⟨T, x, y1, z, h1, h2, h3, h4 xs q.1, h5 ys q.2.1, h6 zs q.2.2⟩
end RU

namespace K12
open PySem PySem.Spec PyProof.Rows L2 RZ HX
def top (i : Nat) : Stmt := PySem.Challenge.pw_latchgrove_k12_whole_ways_by_rank.main.body.getD i (.Pass ⟨0, 0, 0, 0⟩)
abbrev s_wall : Stmt := top 0
abbrev s_is_whole : Stmt := top 6
abbrev s_is_between : Stmt := top 7
abbrev s_is_row : Stmt := top 8
abbrev s_is_key : Stmt := top 9
abbrev s_is_value : Stmt := top 10
abbrev s_is_room : Stmt := top 11
abbrev s_half_of : Stmt := top 12
abbrev s_is_pair : Stmt := top 13
abbrev s_are_pairs : Stmt := top 14
abbrev s_are_rising : Stmt := top 15
abbrev s_are_rising_pairs : Stmt := top 16
abbrev s_is_page_number : Stmt := top 17
abbrev s_is_leaf : Stmt := top 18
abbrev s_is_node : Stmt := top 19
abbrev s_is_page : Stmt := top 20
abbrev s_parts_of : Stmt := top 21
abbrev s_kid_place : Stmt := top 23
abbrev s_Book_init : Stmt := inClass (top 24) 0
abbrev s_Book_way : Stmt := inClass (top 24) 2
abbrev s_is_numbered_page : Stmt := top 30
abbrev s_are_numbered_pages : Stmt := top 31
abbrev s_levels_from : Stmt := top 32
abbrev s_sizes_fit : Stmt := top 33
abbrev s_bounds_of : Stmt := top 34
abbrev s_keys_fit : Stmt := top 35
abbrev s_nexts_fit : Stmt := top 36
abbrev s_is_sound : Stmt := top 37
abbrev s_need_key : Stmt := top 39
abbrev s_need_tree : Stmt := top 40
abbrev s_levels_in : Stmt := top 42
abbrev s_height_of : Stmt := top 43
abbrev s_by_rank : Stmt := top 44
abbrev s_way_to : Stmt := top 46
abbrev s_law_pot : Stmt := top 48
abbrev s_law_take : Stmt := top 49
abbrev s_law_shape : Stmt := top 50
abbrev s_law_many : Stmt := top 51
abbrev s_law_pages : Stmt := top 52
abbrev s_law_pairs : Stmt := top 53
abbrev s_law_laid : Stmt := top 54
abbrev s_law_leaves : Stmt := top 55
abbrev s_law_tree : Stmt := top 56
abbrev s_law_world : Stmt := top 57
abbrev s_law_node_keys : Stmt := top 58
abbrev s_law_parts_right : Stmt := top 59
abbrev s_law : Stmt := top 60
theorem sc_wall : FnScope ["k"] ["k"] (defScope s_wall) := ⟨rfl, rfl, rfl, by decide +kernel, rfl, by decide +kernel, by decide +kernel⟩
theorem sc_is_whole : FnScope ["thing"] ["thing"] (defScope s_is_whole) := ⟨rfl, rfl, rfl, by decide +kernel, rfl, by decide +kernel, by decide +kernel⟩
theorem sc_is_between : FnScope ["thing", "low", "high"] ["thing", "low", "high"] (defScope s_is_between) := ⟨rfl, rfl, rfl, by decide +kernel, rfl, by decide +kernel, by decide +kernel⟩
theorem sc_is_row : FnScope ["thing", "many"] ["thing", "many"] (defScope s_is_row) := ⟨rfl, rfl, rfl, by decide +kernel, rfl, by decide +kernel, by decide +kernel⟩
theorem sc_is_key : FnScope ["thing"] ["thing"] (defScope s_is_key) := ⟨rfl, rfl, rfl, by decide +kernel, rfl, by decide +kernel, by decide +kernel⟩
theorem sc_is_value : FnScope ["thing"] ["thing"] (defScope s_is_value) := ⟨rfl, rfl, rfl, by decide +kernel, rfl, by decide +kernel, by decide +kernel⟩
theorem sc_is_room : FnScope ["thing"] ["thing"] (defScope s_is_room) := ⟨rfl, rfl, rfl, by decide +kernel, rfl, by decide +kernel, by decide +kernel⟩
theorem sc_half_of : FnScope ["room"] ["room"] (defScope s_half_of) := ⟨rfl, rfl, rfl, by decide +kernel, rfl, by decide +kernel, by decide +kernel⟩
theorem sc_is_pair : FnScope ["thing"] ["thing"] (defScope s_is_pair) := ⟨rfl, rfl, rfl, by decide +kernel, rfl, by decide +kernel, by decide +kernel⟩
theorem sc_are_pairs : FnScope ["thing", "pair"] ["thing"] (defScope s_are_pairs) := ⟨rfl, rfl, rfl, by decide +kernel, rfl, by decide +kernel, by decide +kernel⟩
theorem sc_are_rising : FnScope ["things", "one", "other"] ["things"] (defScope s_are_rising) := ⟨rfl, rfl, rfl, by decide +kernel, rfl, by decide +kernel, by decide +kernel⟩
theorem sc_are_rising_pairs : FnScope ["thing", "pair"] ["thing"] (defScope s_are_rising_pairs) := ⟨rfl, rfl, rfl, by decide +kernel, rfl, by decide +kernel, by decide +kernel⟩
theorem sc_is_page_number : FnScope ["thing"] ["thing"] (defScope s_is_page_number) := ⟨rfl, rfl, rfl, by decide +kernel, rfl, by decide +kernel, by decide +kernel⟩
theorem sc_is_leaf : FnScope ["thing"] ["thing"] (defScope s_is_leaf) := ⟨rfl, rfl, rfl, by decide +kernel, rfl, by decide +kernel, by decide +kernel⟩
theorem sc_is_node : FnScope ["thing", "keys", "kids", "key", "kid"] ["thing"] (defScope s_is_node) := ⟨rfl, rfl, rfl, by decide +kernel, rfl, by decide +kernel, by decide +kernel⟩
theorem sc_is_page : FnScope ["thing"] ["thing"] (defScope s_is_page) := ⟨rfl, rfl, rfl, by decide +kernel, rfl, by decide +kernel, by decide +kernel⟩
theorem sc_parts_of : FnScope ["page"] ["page"] (defScope s_parts_of) := ⟨rfl, rfl, rfl, by decide +kernel, rfl, by decide +kernel, by decide +kernel⟩
theorem sc_kid_place : FnScope ["keys", "key", "one"] ["keys", "key"] (defScope s_kid_place) := ⟨rfl, rfl, rfl, by decide +kernel, rfl, by decide +kernel, by decide +kernel⟩
theorem sc_Book_init : FnScope ["self", "tree", "numbered"] ["self", "tree"] (defScope s_Book_init) := ⟨rfl, rfl, rfl, by decide +kernel, rfl, by decide +kernel, by decide +kernel⟩
theorem sc_Book_way : FnScope ["self", "key", "numbers", "page", "_", "keys", "kids"] ["self", "key"] (defScope s_Book_way) := ⟨rfl, rfl, rfl, by decide +kernel, rfl, by decide +kernel, by decide +kernel⟩
theorem sc_is_numbered_page : FnScope ["thing"] ["thing"] (defScope s_is_numbered_page) := ⟨rfl, rfl, rfl, by decide +kernel, rfl, by decide +kernel, by decide +kernel⟩
theorem sc_are_numbered_pages : FnScope ["thing", "one", "other", "part"] ["thing"] (defScope s_are_numbered_pages) := ⟨rfl, rfl, rfl, by decide +kernel, rfl, by decide +kernel, by decide +kernel⟩
theorem sc_levels_from : FnScope ["root", "pages", "seen", "levels", "level", "number", "nodes", "node", "kid"] ["root", "pages"] (defScope s_levels_from) := ⟨rfl, rfl, rfl, by decide +kernel, rfl, by decide +kernel, by decide +kernel⟩
theorem sc_sizes_fit : FnScope ["room", "root", "pages", "number", "page", "least"] ["room", "root", "pages"] (defScope s_sizes_fit) := ⟨rfl, rfl, rfl, by decide +kernel, rfl, by decide +kernel, by decide +kernel⟩
theorem sc_bounds_of : FnScope ["levels", "pages", "bounds", "level", "number", "low", "high", "_", "keys", "kids", "kid", "least", "above"] ["levels", "pages"] (defScope s_bounds_of) := ⟨rfl, rfl, rfl, by decide +kernel, rfl, by decide +kernel, by decide +kernel⟩
theorem sc_keys_fit : FnScope ["levels", "pages", "bounds", "number", "low", "high", "pair"] ["levels", "pages"] (defScope s_keys_fit) := ⟨rfl, rfl, rfl, by decide +kernel, rfl, by decide +kernel, by decide +kernel⟩
theorem sc_nexts_fit : FnScope ["leaves", "pages", "nexts", "number"] ["leaves", "pages"] (defScope s_nexts_fit) := ⟨rfl, rfl, rfl, by decide +kernel, rfl, by decide +kernel, by decide +kernel⟩
theorem sc_is_sound : FnScope ["thing", "room", "root", "numbered", "pages", "levels"] ["thing"] (defScope s_is_sound) := ⟨rfl, rfl, rfl, by decide +kernel, rfl, by decide +kernel, by decide +kernel⟩
theorem sc_need_key : FnScope ["thing"] ["thing"] (defScope s_need_key) := ⟨rfl, rfl, rfl, by decide +kernel, rfl, by decide +kernel, by decide +kernel⟩
theorem sc_need_tree : FnScope ["thing"] ["thing"] (defScope s_need_tree) := ⟨rfl, rfl, rfl, by decide +kernel, rfl, by decide +kernel, by decide +kernel⟩
theorem sc_levels_in : FnScope ["tree"] ["tree"] (defScope s_levels_in) := ⟨rfl, rfl, rfl, by decide +kernel, rfl, by decide +kernel, by decide +kernel⟩
theorem sc_height_of : FnScope ["tree"] ["tree"] (defScope s_height_of) := ⟨rfl, rfl, rfl, by decide +kernel, rfl, by decide +kernel, by decide +kernel⟩
theorem sc_by_rank : FnScope ["tree", "level", "number"] ["tree"] (defScope s_by_rank) := ⟨rfl, rfl, rfl, by decide +kernel, rfl, by decide +kernel, by decide +kernel⟩
theorem sc_way_to : FnScope ["tree", "key"] ["tree", "key"] (defScope s_way_to) := ⟨rfl, rfl, rfl, by decide +kernel, rfl, by decide +kernel, by decide +kernel⟩
theorem sc_law_pot : FnScope ["script", "k", "cell"] ["script", "k"] (defScope s_law_pot) := ⟨rfl, rfl, rfl, by decide +kernel, rfl, by decide +kernel, by decide +kernel⟩
theorem sc_law_take : FnScope ["pot", "many", "found", "one", "other"] ["pot", "many"] (defScope s_law_take) := ⟨rfl, rfl, rfl, by decide +kernel, rfl, by decide +kernel, by decide +kernel⟩
theorem sc_law_shape : FnScope ["pot", "room", "levels", "top", "wide", "least", "many", "k"] ["pot", "room", "levels", "top", "wide"] (defScope s_law_shape) := ⟨rfl, rfl, rfl, by decide +kernel, rfl, by decide +kernel, by decide +kernel⟩
theorem sc_law_many : FnScope ["shape", "kid"] ["shape"] (defScope s_law_many) := ⟨rfl, rfl, rfl, by decide +kernel, rfl, by decide +kernel, by decide +kernel⟩
theorem sc_law_pages : FnScope ["shape", "kid"] ["shape"] (defScope s_law_pages) := ⟨rfl, rfl, rfl, by decide +kernel, rfl, by decide +kernel, by decide +kernel⟩
theorem sc_law_pairs : FnScope ["pot", "many", "found", "key", "k"] ["pot", "many"] (defScope s_law_pairs) := ⟨rfl, rfl, rfl, by decide +kernel, rfl, by decide +kernel, by decide +kernel⟩
theorem sc_law_laid : FnScope ["pot", "shape", "rest", "pages", "number", "pairs", "kids", "keys", "kid", "pair"] ["pot", "shape", "rest", "pages"] (defScope s_law_laid) := ⟨rfl, rfl, rfl, by decide +kernel, rfl, by decide +kernel, by decide +kernel⟩
theorem sc_law_leaves : FnScope ["pages", "number", "found", "kid"] ["pages", "number"] (defScope s_law_leaves) := ⟨rfl, rfl, rfl, by decide +kernel, rfl, by decide +kernel, by decide +kernel⟩
theorem sc_law_tree : FnScope ["pot", "room", "levels", "wide", "shape", "many", "apart", "k", "left", "numbers", "pages", "root", "leaves", "number", "following"] ["pot", "room", "levels", "wide"] (defScope s_law_tree) := ⟨rfl, rfl, rfl, by decide +kernel, rfl, by decide +kernel, by decide +kernel⟩
theorem sc_law_world : FnScope ["pot", "k", "room", "levels"] ["pot", "k"] (defScope s_law_world) := ⟨rfl, rfl, rfl, by decide +kernel, rfl, by decide +kernel, by decide +kernel⟩
theorem sc_law_node_keys : FnScope ["tree", "found", "number", "page"] ["tree"] (defScope s_law_node_keys) := ⟨rfl, rfl, rfl, by decide +kernel, rfl, by decide +kernel, by decide +kernel⟩
theorem sc_law_parts_right : FnScope ["pages", "key", "ahead", "here", "at", "word", "keys", "kids", "place", "above", "left", "right"] ["pages", "key", "ahead", "here"] (defScope s_law_parts_right) := ⟨rfl, rfl, rfl, by decide +kernel, rfl, by decide +kernel, by decide +kernel⟩
theorem sc_law : FnScope ["script", "k", "pot", "tree", "keys", "key", "ways", "ahead", "here", "order", "level", "way"] ["script"] (defScope s_law) := ⟨rfl, rfl, rfl, by decide +kernel, rfl, by decide +kernel, by decide +kernel⟩
/-- what the top has written -/
structure TX (K : PySem.W.Frag) (mg : Str → Option Value) where
  fd_wall : FuncData
  F_wall : FunD K "_wall" "_wall" (defArgs s_wall) (defBody s_wall) (defScope s_wall) [] [] (He.ga K "_wall") fd_wall
  g_wall : mg "_wall" = some (.ref (He.ga K "_wall"))
  fd_is_whole : FuncData
  F_is_whole : FunD K "is_whole" "is_whole" (defArgs s_is_whole) (defBody s_is_whole) (defScope s_is_whole) [] [] (He.ga K "is_whole") fd_is_whole
  g_is_whole : mg "is_whole" = some (.ref (He.ga K "is_whole"))
  fd_is_between : FuncData
  F_is_between : FunD K "is_between" "is_between" (defArgs s_is_between) (defBody s_is_between) (defScope s_is_between) [] [] (He.ga K "is_between") fd_is_between
  g_is_between : mg "is_between" = some (.ref (He.ga K "is_between"))
  fd_is_row : FuncData
  F_is_row : FunD K "is_row" "is_row" (defArgs s_is_row) (defBody s_is_row) (defScope s_is_row) [] [] (He.ga K "is_row") fd_is_row
  g_is_row : mg "is_row" = some (.ref (He.ga K "is_row"))
  fd_is_key : FuncData
  F_is_key : FunD K "is_key" "is_key" (defArgs s_is_key) (defBody s_is_key) (defScope s_is_key) [] [] (He.ga K "is_key") fd_is_key
  g_is_key : mg "is_key" = some (.ref (He.ga K "is_key"))
  fd_is_value : FuncData
  F_is_value : FunD K "is_value" "is_value" (defArgs s_is_value) (defBody s_is_value) (defScope s_is_value) [] [] (He.ga K "is_value") fd_is_value
  g_is_value : mg "is_value" = some (.ref (He.ga K "is_value"))
  fd_is_room : FuncData
  F_is_room : FunD K "is_room" "is_room" (defArgs s_is_room) (defBody s_is_room) (defScope s_is_room) [] [] (He.ga K "is_room") fd_is_room
  g_is_room : mg "is_room" = some (.ref (He.ga K "is_room"))
  fd_half_of : FuncData
  F_half_of : FunD K "half_of" "half_of" (defArgs s_half_of) (defBody s_half_of) (defScope s_half_of) [] [] (He.ga K "half_of") fd_half_of
  g_half_of : mg "half_of" = some (.ref (He.ga K "half_of"))
  fd_is_pair : FuncData
  F_is_pair : FunD K "is_pair" "is_pair" (defArgs s_is_pair) (defBody s_is_pair) (defScope s_is_pair) [] [] (He.ga K "is_pair") fd_is_pair
  g_is_pair : mg "is_pair" = some (.ref (He.ga K "is_pair"))
  fd_are_pairs : FuncData
  F_are_pairs : FunD K "are_pairs" "are_pairs" (defArgs s_are_pairs) (defBody s_are_pairs) (defScope s_are_pairs) [] [] (He.ga K "are_pairs") fd_are_pairs
  g_are_pairs : mg "are_pairs" = some (.ref (He.ga K "are_pairs"))
  fd_are_rising : FuncData
  F_are_rising : FunD K "are_rising" "are_rising" (defArgs s_are_rising) (defBody s_are_rising) (defScope s_are_rising) [] [] (He.ga K "are_rising") fd_are_rising
  g_are_rising : mg "are_rising" = some (.ref (He.ga K "are_rising"))
  fd_are_rising_pairs : FuncData
  F_are_rising_pairs : FunD K "are_rising_pairs" "are_rising_pairs" (defArgs s_are_rising_pairs) (defBody s_are_rising_pairs) (defScope s_are_rising_pairs) [] [] (He.ga K "are_rising_pairs") fd_are_rising_pairs
  g_are_rising_pairs : mg "are_rising_pairs" = some (.ref (He.ga K "are_rising_pairs"))
  fd_is_page_number : FuncData
  F_is_page_number : FunD K "is_page_number" "is_page_number" (defArgs s_is_page_number) (defBody s_is_page_number) (defScope s_is_page_number) [] [] (He.ga K "is_page_number") fd_is_page_number
  g_is_page_number : mg "is_page_number" = some (.ref (He.ga K "is_page_number"))
  fd_is_leaf : FuncData
  F_is_leaf : FunD K "is_leaf" "is_leaf" (defArgs s_is_leaf) (defBody s_is_leaf) (defScope s_is_leaf) [] [] (He.ga K "is_leaf") fd_is_leaf
  g_is_leaf : mg "is_leaf" = some (.ref (He.ga K "is_leaf"))
  fd_is_node : FuncData
  F_is_node : FunD K "is_node" "is_node" (defArgs s_is_node) (defBody s_is_node) (defScope s_is_node) [] [] (He.ga K "is_node") fd_is_node
  g_is_node : mg "is_node" = some (.ref (He.ga K "is_node"))
  fd_is_page : FuncData
  F_is_page : FunD K "is_page" "is_page" (defArgs s_is_page) (defBody s_is_page) (defScope s_is_page) [] [] (He.ga K "is_page") fd_is_page
  g_is_page : mg "is_page" = some (.ref (He.ga K "is_page"))
  fd_parts_of : FuncData
  F_parts_of : FunD K "parts_of" "parts_of" (defArgs s_parts_of) (defBody s_parts_of) (defScope s_parts_of) [] [] (He.ga K "parts_of") fd_parts_of
  g_parts_of : mg "parts_of" = some (.ref (He.ga K "parts_of"))
  fd_kid_place : FuncData
  F_kid_place : FunD K "kid_place" "kid_place" (defArgs s_kid_place) (defBody s_kid_place) (defScope s_kid_place) [] [] (He.ga K "kid_place") fd_kid_place
  g_kid_place : mg "kid_place" = some (.ref (He.ga K "kid_place"))
  fd_Book_init : FuncData
  F_Book_init : FunD K "__init__" "Book.__init__" (defArgs s_Book_init) (defBody s_Book_init) (defScope s_Book_init) [] [] (He.ma K (He.ga K "Book") "__init__") fd_Book_init
  fd_Book_way : FuncData
  F_Book_way : FunD K "way" "Book.way" (defArgs s_Book_way) (defBody s_Book_way) (defScope s_Book_way) [] [] (He.ma K (He.ga K "Book") "way") fd_Book_way
  m_Book_way : Meth K (He.ga K "Book") "way" (He.ma K (He.ga K "Book") "way")
  fd_is_numbered_page : FuncData
  F_is_numbered_page : FunD K "is_numbered_page" "is_numbered_page" (defArgs s_is_numbered_page) (defBody s_is_numbered_page) (defScope s_is_numbered_page) [] [] (He.ga K "is_numbered_page") fd_is_numbered_page
  g_is_numbered_page : mg "is_numbered_page" = some (.ref (He.ga K "is_numbered_page"))
  fd_are_numbered_pages : FuncData
  F_are_numbered_pages : FunD K "are_numbered_pages" "are_numbered_pages" (defArgs s_are_numbered_pages) (defBody s_are_numbered_pages) (defScope s_are_numbered_pages) [] [] (He.ga K "are_numbered_pages") fd_are_numbered_pages
  g_are_numbered_pages : mg "are_numbered_pages" = some (.ref (He.ga K "are_numbered_pages"))
  fd_levels_from : FuncData
  F_levels_from : FunD K "levels_from" "levels_from" (defArgs s_levels_from) (defBody s_levels_from) (defScope s_levels_from) [] [] (He.ga K "levels_from") fd_levels_from
  g_levels_from : mg "levels_from" = some (.ref (He.ga K "levels_from"))
  fd_sizes_fit : FuncData
  F_sizes_fit : FunD K "sizes_fit" "sizes_fit" (defArgs s_sizes_fit) (defBody s_sizes_fit) (defScope s_sizes_fit) [] [] (He.ga K "sizes_fit") fd_sizes_fit
  g_sizes_fit : mg "sizes_fit" = some (.ref (He.ga K "sizes_fit"))
  fd_bounds_of : FuncData
  F_bounds_of : FunD K "bounds_of" "bounds_of" (defArgs s_bounds_of) (defBody s_bounds_of) (defScope s_bounds_of) [] [] (He.ga K "bounds_of") fd_bounds_of
  g_bounds_of : mg "bounds_of" = some (.ref (He.ga K "bounds_of"))
  fd_keys_fit : FuncData
  F_keys_fit : FunD K "keys_fit" "keys_fit" (defArgs s_keys_fit) (defBody s_keys_fit) (defScope s_keys_fit) [] [] (He.ga K "keys_fit") fd_keys_fit
  g_keys_fit : mg "keys_fit" = some (.ref (He.ga K "keys_fit"))
  fd_nexts_fit : FuncData
  F_nexts_fit : FunD K "nexts_fit" "nexts_fit" (defArgs s_nexts_fit) (defBody s_nexts_fit) (defScope s_nexts_fit) [] [] (He.ga K "nexts_fit") fd_nexts_fit
  g_nexts_fit : mg "nexts_fit" = some (.ref (He.ga K "nexts_fit"))
  fd_is_sound : FuncData
  F_is_sound : FunD K "is_sound" "is_sound" (defArgs s_is_sound) (defBody s_is_sound) (defScope s_is_sound) [] [] (He.ga K "is_sound") fd_is_sound
  g_is_sound : mg "is_sound" = some (.ref (He.ga K "is_sound"))
  fd_need_key : FuncData
  F_need_key : FunD K "need_key" "need_key" (defArgs s_need_key) (defBody s_need_key) (defScope s_need_key) [] [] (He.ga K "need_key") fd_need_key
  g_need_key : mg "need_key" = some (.ref (He.ga K "need_key"))
  fd_need_tree : FuncData
  F_need_tree : FunD K "need_tree" "need_tree" (defArgs s_need_tree) (defBody s_need_tree) (defScope s_need_tree) [] [] (He.ga K "need_tree") fd_need_tree
  g_need_tree : mg "need_tree" = some (.ref (He.ga K "need_tree"))
  fd_levels_in : FuncData
  F_levels_in : FunD K "levels_in" "levels_in" (defArgs s_levels_in) (defBody s_levels_in) (defScope s_levels_in) [] [] (He.ga K "levels_in") fd_levels_in
  g_levels_in : mg "levels_in" = some (.ref (He.ga K "levels_in"))
  fd_height_of : FuncData
  F_height_of : FunD K "height_of" "height_of" (defArgs s_height_of) (defBody s_height_of) (defScope s_height_of) [] [] (He.ga K "height_of") fd_height_of
  g_height_of : mg "height_of" = some (.ref (He.ga K "height_of"))
  fd_by_rank : FuncData
  F_by_rank : FunD K "by_rank" "by_rank" (defArgs s_by_rank) (defBody s_by_rank) (defScope s_by_rank) [] [] (He.ga K "by_rank") fd_by_rank
  g_by_rank : mg "by_rank" = some (.ref (He.ga K "by_rank"))
  fd_way_to : FuncData
  F_way_to : FunD K "way_to" "way_to" (defArgs s_way_to) (defBody s_way_to) (defScope s_way_to) [] [] (He.ga K "way_to") fd_way_to
  g_way_to : mg "way_to" = some (.ref (He.ga K "way_to"))
  fd_law_pot : FuncData
  F_law_pot : FunD K "_law_pot" "_law_pot" (defArgs s_law_pot) (defBody s_law_pot) (defScope s_law_pot) [] [] (He.ga K "_law_pot") fd_law_pot
  g_law_pot : mg "_law_pot" = some (.ref (He.ga K "_law_pot"))
  fd_law_take : FuncData
  F_law_take : FunD K "_law_take" "_law_take" (defArgs s_law_take) (defBody s_law_take) (defScope s_law_take) [] [] (He.ga K "_law_take") fd_law_take
  g_law_take : mg "_law_take" = some (.ref (He.ga K "_law_take"))
  fd_law_shape : FuncData
  F_law_shape : FunD K "_law_shape" "_law_shape" (defArgs s_law_shape) (defBody s_law_shape) (defScope s_law_shape) [] [] (He.ga K "_law_shape") fd_law_shape
  g_law_shape : mg "_law_shape" = some (.ref (He.ga K "_law_shape"))
  fd_law_many : FuncData
  F_law_many : FunD K "_law_many" "_law_many" (defArgs s_law_many) (defBody s_law_many) (defScope s_law_many) [] [] (He.ga K "_law_many") fd_law_many
  g_law_many : mg "_law_many" = some (.ref (He.ga K "_law_many"))
  fd_law_pages : FuncData
  F_law_pages : FunD K "_law_pages" "_law_pages" (defArgs s_law_pages) (defBody s_law_pages) (defScope s_law_pages) [] [] (He.ga K "_law_pages") fd_law_pages
  g_law_pages : mg "_law_pages" = some (.ref (He.ga K "_law_pages"))
  fd_law_pairs : FuncData
  F_law_pairs : FunD K "_law_pairs" "_law_pairs" (defArgs s_law_pairs) (defBody s_law_pairs) (defScope s_law_pairs) [] [] (He.ga K "_law_pairs") fd_law_pairs
  g_law_pairs : mg "_law_pairs" = some (.ref (He.ga K "_law_pairs"))
  fd_law_laid : FuncData
  F_law_laid : FunD K "_law_laid" "_law_laid" (defArgs s_law_laid) (defBody s_law_laid) (defScope s_law_laid) [] [] (He.ga K "_law_laid") fd_law_laid
  g_law_laid : mg "_law_laid" = some (.ref (He.ga K "_law_laid"))
  fd_law_leaves : FuncData
  F_law_leaves : FunD K "_law_leaves" "_law_leaves" (defArgs s_law_leaves) (defBody s_law_leaves) (defScope s_law_leaves) [] [] (He.ga K "_law_leaves") fd_law_leaves
  g_law_leaves : mg "_law_leaves" = some (.ref (He.ga K "_law_leaves"))
  fd_law_tree : FuncData
  F_law_tree : FunD K "_law_tree" "_law_tree" (defArgs s_law_tree) (defBody s_law_tree) (defScope s_law_tree) [] [] (He.ga K "_law_tree") fd_law_tree
  g_law_tree : mg "_law_tree" = some (.ref (He.ga K "_law_tree"))
  fd_law_world : FuncData
  F_law_world : FunD K "_law_world" "_law_world" (defArgs s_law_world) (defBody s_law_world) (defScope s_law_world) [] [] (He.ga K "_law_world") fd_law_world
  g_law_world : mg "_law_world" = some (.ref (He.ga K "_law_world"))
  fd_law_node_keys : FuncData
  F_law_node_keys : FunD K "_law_node_keys" "_law_node_keys" (defArgs s_law_node_keys) (defBody s_law_node_keys) (defScope s_law_node_keys) [] [] (He.ga K "_law_node_keys") fd_law_node_keys
  g_law_node_keys : mg "_law_node_keys" = some (.ref (He.ga K "_law_node_keys"))
  fd_law_parts_right : FuncData
  F_law_parts_right : FunD K "_law_parts_right" "_law_parts_right" (defArgs s_law_parts_right) (defBody s_law_parts_right) (defScope s_law_parts_right) [] [] (He.ga K "_law_parts_right") fd_law_parts_right
  g_law_parts_right : mg "_law_parts_right" = some (.ref (He.ga K "_law_parts_right"))
  fd_law : FuncData
  F_law : FunD K "law" "law" (defArgs s_law) (defBody s_law) (defScope s_law) [] [] (He.ga K "law") fd_law
  g_law : mg "law" = some (.ref (He.ga K "law"))
  g_Book : mg "Book" = some (.ref (He.ga K "Book"))
  g_GroveError : mg "GroveError" = some (.ref (He.ga K "GroveError"))
  g_NoKey : mg "NoKey" = some (.ref (He.ga K "NoKey"))
  g_NoTree : mg "NoTree" = some (.ref (He.ga K "NoTree"))
  cl_Book : Cls K (He.ga K "Book")
  mk_Book : Mk K (He.ga K "Book") (He.ma K (He.ga K "Book") "__init__")
  na_Book_room : NoAttr K (He.ga K "Book") "room"
  na_Book_root : NoAttr K (He.ga K "Book") "root"
  na_Book_half : NoAttr K (He.ga K "Book") "half"
  na_Book_pages : NoAttr K (He.ga K "Book") "pages"
  g_GREATEST : ∃ t, mg "GREATEST" = some (.int 1000000000 t)
  g_LAST_PAGE : ∃ t, mg "LAST_PAGE" = some (.int 1000000 t)
  g_LEAST_ROOM : ∃ t, mg "LEAST_ROOM" = some (.int 3 t)
  g_GREATEST_ROOM : ∃ t, mg "GREATEST_ROOM" = some (.int 8 t)
  n_abs : mg "abs" = none
  n_all : mg "all" = none
  n_bool : mg "bool" = none
  n_dict : mg "dict" = none
  n_int : mg "int" = none
  n_isinstance : mg "isinstance" = none
  n_len : mg "len" = none
  n_list : mg "list" = none
  n_min : mg "min" = none
  n_range : mg "range" = none
  n_set : mg "set" = none
  n_sorted : mg "sorted" = none
  n_sum : mg "sum" = none
  n_tuple : mg "tuple" = none
  n_zip : mg "zip" = none
theorem b_wall {K : PySem.W.Frag} {mg : Str → Option Value} (T : TX K mg) : Binds K T.fd_wall ["k"] [] := T.F_wall.bindsN fun _ _ _ _ _ _ us hl => match us, hl with | [_], _ => rfl
theorem b_is_whole {K : PySem.W.Frag} {mg : Str → Option Value} (T : TX K mg) : Binds K T.fd_is_whole ["thing"] [] := T.F_is_whole.bindsN fun _ _ _ _ _ _ us hl => match us, hl with | [_], _ => rfl
theorem b_is_between {K : PySem.W.Frag} {mg : Str → Option Value} (T : TX K mg) : Binds K T.fd_is_between ["thing", "low", "high"] [] := T.F_is_between.bindsN fun _ _ _ _ _ _ us hl => match us, hl with | [_, _, _], _ => rfl
theorem b_is_row {K : PySem.W.Frag} {mg : Str → Option Value} (T : TX K mg) : Binds K T.fd_is_row ["thing", "many"] [] := T.F_is_row.bindsN fun _ _ _ _ _ _ us hl => match us, hl with | [_, _], _ => rfl
theorem b_is_key {K : PySem.W.Frag} {mg : Str → Option Value} (T : TX K mg) : Binds K T.fd_is_key ["thing"] [] := T.F_is_key.bindsN fun _ _ _ _ _ _ us hl => match us, hl with | [_], _ => rfl
theorem b_is_value {K : PySem.W.Frag} {mg : Str → Option Value} (T : TX K mg) : Binds K T.fd_is_value ["thing"] [] := T.F_is_value.bindsN fun _ _ _ _ _ _ us hl => match us, hl with | [_], _ => rfl
theorem b_is_room {K : PySem.W.Frag} {mg : Str → Option Value} (T : TX K mg) : Binds K T.fd_is_room ["thing"] [] := T.F_is_room.bindsN fun _ _ _ _ _ _ us hl => match us, hl with | [_], _ => rfl
theorem b_half_of {K : PySem.W.Frag} {mg : Str → Option Value} (T : TX K mg) : Binds K T.fd_half_of ["room"] [] := T.F_half_of.bindsN fun _ _ _ _ _ _ us hl => match us, hl with | [_], _ => rfl
theorem b_is_pair {K : PySem.W.Frag} {mg : Str → Option Value} (T : TX K mg) : Binds K T.fd_is_pair ["thing"] [] := T.F_is_pair.bindsN fun _ _ _ _ _ _ us hl => match us, hl with | [_], _ => rfl
theorem b_are_pairs {K : PySem.W.Frag} {mg : Str → Option Value} (T : TX K mg) : Binds K T.fd_are_pairs ["thing"] [] := T.F_are_pairs.bindsN fun _ _ _ _ _ _ us hl => match us, hl with | [_], _ => rfl
theorem b_are_rising {K : PySem.W.Frag} {mg : Str → Option Value} (T : TX K mg) : Binds K T.fd_are_rising ["things"] [] := T.F_are_rising.bindsN fun _ _ _ _ _ _ us hl => match us, hl with | [_], _ => rfl
theorem b_are_rising_pairs {K : PySem.W.Frag} {mg : Str → Option Value} (T : TX K mg) : Binds K T.fd_are_rising_pairs ["thing"] [] := T.F_are_rising_pairs.bindsN fun _ _ _ _ _ _ us hl => match us, hl with | [_], _ => rfl
theorem b_is_page_number {K : PySem.W.Frag} {mg : Str → Option Value} (T : TX K mg) : Binds K T.fd_is_page_number ["thing"] [] := T.F_is_page_number.bindsN fun _ _ _ _ _ _ us hl => match us, hl with | [_], _ => rfl
theorem b_is_leaf {K : PySem.W.Frag} {mg : Str → Option Value} (T : TX K mg) : Binds K T.fd_is_leaf ["thing"] [] := T.F_is_leaf.bindsN fun _ _ _ _ _ _ us hl => match us, hl with | [_], _ => rfl
theorem b_is_node {K : PySem.W.Frag} {mg : Str → Option Value} (T : TX K mg) : Binds K T.fd_is_node ["thing"] [] := T.F_is_node.bindsN fun _ _ _ _ _ _ us hl => match us, hl with | [_], _ => rfl
theorem b_is_page {K : PySem.W.Frag} {mg : Str → Option Value} (T : TX K mg) : Binds K T.fd_is_page ["thing"] [] := T.F_is_page.bindsN fun _ _ _ _ _ _ us hl => match us, hl with | [_], _ => rfl
theorem b_parts_of {K : PySem.W.Frag} {mg : Str → Option Value} (T : TX K mg) : Binds K T.fd_parts_of ["page"] [] := T.F_parts_of.bindsN fun _ _ _ _ _ _ us hl => match us, hl with | [_], _ => rfl
theorem b_kid_place {K : PySem.W.Frag} {mg : Str → Option Value} (T : TX K mg) : Binds K T.fd_kid_place ["keys", "key"] [] := T.F_kid_place.bindsN fun _ _ _ _ _ _ us hl => match us, hl with | [_, _], _ => rfl
theorem b_Book_init {K : PySem.W.Frag} {mg : Str → Option Value} (T : TX K mg) : Binds K T.fd_Book_init ["self", "tree"] [] := T.F_Book_init.bindsN fun _ _ _ _ _ _ us hl => match us, hl with | [_, _], _ => rfl
theorem b_Book_way {K : PySem.W.Frag} {mg : Str → Option Value} (T : TX K mg) : Binds K T.fd_Book_way ["self", "key"] [] := T.F_Book_way.bindsN fun _ _ _ _ _ _ us hl => match us, hl with | [_, _], _ => rfl
theorem b_is_numbered_page {K : PySem.W.Frag} {mg : Str → Option Value} (T : TX K mg) : Binds K T.fd_is_numbered_page ["thing"] [] := T.F_is_numbered_page.bindsN fun _ _ _ _ _ _ us hl => match us, hl with | [_], _ => rfl
theorem b_are_numbered_pages {K : PySem.W.Frag} {mg : Str → Option Value} (T : TX K mg) : Binds K T.fd_are_numbered_pages ["thing"] [] := T.F_are_numbered_pages.bindsN fun _ _ _ _ _ _ us hl => match us, hl with | [_], _ => rfl
theorem b_levels_from {K : PySem.W.Frag} {mg : Str → Option Value} (T : TX K mg) : Binds K T.fd_levels_from ["root", "pages"] [] := T.F_levels_from.bindsN fun _ _ _ _ _ _ us hl => match us, hl with | [_, _], _ => rfl
theorem b_sizes_fit {K : PySem.W.Frag} {mg : Str → Option Value} (T : TX K mg) : Binds K T.fd_sizes_fit ["room", "root", "pages"] [] := T.F_sizes_fit.bindsN fun _ _ _ _ _ _ us hl => match us, hl with | [_, _, _], _ => rfl
theorem b_bounds_of {K : PySem.W.Frag} {mg : Str → Option Value} (T : TX K mg) : Binds K T.fd_bounds_of ["levels", "pages"] [] := T.F_bounds_of.bindsN fun _ _ _ _ _ _ us hl => match us, hl with | [_, _], _ => rfl
theorem b_keys_fit {K : PySem.W.Frag} {mg : Str → Option Value} (T : TX K mg) : Binds K T.fd_keys_fit ["levels", "pages"] [] := T.F_keys_fit.bindsN fun _ _ _ _ _ _ us hl => match us, hl with | [_, _], _ => rfl
theorem b_nexts_fit {K : PySem.W.Frag} {mg : Str → Option Value} (T : TX K mg) : Binds K T.fd_nexts_fit ["leaves", "pages"] [] := T.F_nexts_fit.bindsN fun _ _ _ _ _ _ us hl => match us, hl with | [_, _], _ => rfl
theorem b_is_sound {K : PySem.W.Frag} {mg : Str → Option Value} (T : TX K mg) : Binds K T.fd_is_sound ["thing"] [] := T.F_is_sound.bindsN fun _ _ _ _ _ _ us hl => match us, hl with | [_], _ => rfl
theorem b_need_key {K : PySem.W.Frag} {mg : Str → Option Value} (T : TX K mg) : Binds K T.fd_need_key ["thing"] [] := T.F_need_key.bindsN fun _ _ _ _ _ _ us hl => match us, hl with | [_], _ => rfl
theorem b_need_tree {K : PySem.W.Frag} {mg : Str → Option Value} (T : TX K mg) : Binds K T.fd_need_tree ["thing"] [] := T.F_need_tree.bindsN fun _ _ _ _ _ _ us hl => match us, hl with | [_], _ => rfl
theorem b_levels_in {K : PySem.W.Frag} {mg : Str → Option Value} (T : TX K mg) : Binds K T.fd_levels_in ["tree"] [] := T.F_levels_in.bindsN fun _ _ _ _ _ _ us hl => match us, hl with | [_], _ => rfl
theorem b_height_of {K : PySem.W.Frag} {mg : Str → Option Value} (T : TX K mg) : Binds K T.fd_height_of ["tree"] [] := T.F_height_of.bindsN fun _ _ _ _ _ _ us hl => match us, hl with | [_], _ => rfl
theorem b_by_rank {K : PySem.W.Frag} {mg : Str → Option Value} (T : TX K mg) : Binds K T.fd_by_rank ["tree"] [] := T.F_by_rank.bindsN fun _ _ _ _ _ _ us hl => match us, hl with | [_], _ => rfl
theorem b_way_to {K : PySem.W.Frag} {mg : Str → Option Value} (T : TX K mg) : Binds K T.fd_way_to ["tree", "key"] [] := T.F_way_to.bindsN fun _ _ _ _ _ _ us hl => match us, hl with | [_, _], _ => rfl
theorem b_law_pot {K : PySem.W.Frag} {mg : Str → Option Value} (T : TX K mg) : Binds K T.fd_law_pot ["script", "k"] [] := T.F_law_pot.bindsN fun _ _ _ _ _ _ us hl => match us, hl with | [_, _], _ => rfl
theorem b_law_take {K : PySem.W.Frag} {mg : Str → Option Value} (T : TX K mg) : Binds K T.fd_law_take ["pot", "many"] [] := T.F_law_take.bindsN fun _ _ _ _ _ _ us hl => match us, hl with | [_, _], _ => rfl
theorem b_law_shape {K : PySem.W.Frag} {mg : Str → Option Value} (T : TX K mg) : Binds K T.fd_law_shape ["pot", "room", "levels", "top", "wide"] [] := T.F_law_shape.bindsN fun _ _ _ _ _ _ us hl => match us, hl with | [_, _, _, _, _], _ => rfl
theorem b_law_many {K : PySem.W.Frag} {mg : Str → Option Value} (T : TX K mg) : Binds K T.fd_law_many ["shape"] [] := T.F_law_many.bindsN fun _ _ _ _ _ _ us hl => match us, hl with | [_], _ => rfl
theorem b_law_pages {K : PySem.W.Frag} {mg : Str → Option Value} (T : TX K mg) : Binds K T.fd_law_pages ["shape"] [] := T.F_law_pages.bindsN fun _ _ _ _ _ _ us hl => match us, hl with | [_], _ => rfl
theorem b_law_pairs {K : PySem.W.Frag} {mg : Str → Option Value} (T : TX K mg) : Binds K T.fd_law_pairs ["pot", "many"] [] := T.F_law_pairs.bindsN fun _ _ _ _ _ _ us hl => match us, hl with | [_, _], _ => rfl
theorem b_law_laid {K : PySem.W.Frag} {mg : Str → Option Value} (T : TX K mg) : Binds K T.fd_law_laid ["pot", "shape", "rest", "pages"] [] := T.F_law_laid.bindsN fun _ _ _ _ _ _ us hl => match us, hl with | [_, _, _, _], _ => rfl
theorem b_law_leaves {K : PySem.W.Frag} {mg : Str → Option Value} (T : TX K mg) : Binds K T.fd_law_leaves ["pages", "number"] [] := T.F_law_leaves.bindsN fun _ _ _ _ _ _ us hl => match us, hl with | [_, _], _ => rfl
theorem b_law_tree {K : PySem.W.Frag} {mg : Str → Option Value} (T : TX K mg) : Binds K T.fd_law_tree ["pot", "room", "levels", "wide"] [] := T.F_law_tree.bindsN fun _ _ _ _ _ _ us hl => match us, hl with | [_, _, _, _], _ => rfl
theorem b_law_world {K : PySem.W.Frag} {mg : Str → Option Value} (T : TX K mg) : Binds K T.fd_law_world ["pot", "k"] [] := T.F_law_world.bindsN fun _ _ _ _ _ _ us hl => match us, hl with | [_, _], _ => rfl
theorem b_law_node_keys {K : PySem.W.Frag} {mg : Str → Option Value} (T : TX K mg) : Binds K T.fd_law_node_keys ["tree"] [] := T.F_law_node_keys.bindsN fun _ _ _ _ _ _ us hl => match us, hl with | [_], _ => rfl
theorem b_law_parts_right {K : PySem.W.Frag} {mg : Str → Option Value} (T : TX K mg) : Binds K T.fd_law_parts_right ["pages", "key", "ahead", "here"] [] := T.F_law_parts_right.bindsN fun _ _ _ _ _ _ us hl => match us, hl with | [_, _, _, _], _ => rfl
theorem b_law {K : PySem.W.Frag} {mg : Str → Option Value} (T : TX K mg) : Binds K T.fd_law ["script"] [] := T.F_law.bindsN fun _ _ _ _ _ _ us hl => match us, hl with | [_], _ => rfl
end K12

namespace K12
open PySem PySem.Spec PyProof.Rows L2 RZ HX
/-- a pot at p: its three numbers, the last at most B -/
def PotOk (H : Hp) (p : Addr) (B : Int) : Prop := ∃ x y c : Int, H p = some (.lst [.int x, .int y, .int c]) ∧ 0 ≤ x ∧ x < 2 ^ 2000 ∧ 0 ≤ y ∧ y < 2 ^ 61 ∧ 0 ≤ c ∧ c ≤ B
theorem PotOk.le {H : Hp} {p : Addr} {B C : Int} (h : PotOk H p B) (l : B ≤ C) : PotOk H p C := by
  obtain ⟨x, y, c, h1, h2, h3, h4, h5, h6, h7⟩ := h
  exact ⟨x, y, c, h1, h2, h3, h4, h5, h6, Int.le_trans h7 l⟩
theorem PotOk.same {H H' : Hp} {p : Addr} {B : Int} (h : PotOk H p B) (s : Same H H') : PotOk H' p B := by
  obtain ⟨x, y, c, h1, r⟩ := h
  exact ⟨x, y, c, s _ _ h1, r⟩
theorem PotOk.ne {H : Hp} {p q : Addr} {B : Int} (h : PotOk H p B) (n : H q = none) : p ≠ q := by
  obtain ⟨x, y, c, h1, r⟩ := h
  exact ne_of_none h1 n
theorem PotOk.new {H : Hp} {p q : Addr} {B : Int} {o : HO} (h : PotOk H p B) (n : H q = none) : PotOk (upd H q o) p B := h.same (same_new n)
theorem ten600 : (((10 : Int) ^ (60 : Int).toNat) ^ (10 : Int).toNat) < 2 ^ 2000 := by decide +kernel
section
variable {P : Program} {w : World} {K : PySem.W.Frag} {mg : Str → Option Value} {base : Heap}
def sp_law_pot (K : PySem.W.Frag) : Sp := fun vs H Q _ => ∃ (a : Addr) (ns : List Int) (k : Nat), vs = [.ref a, .int (k : Int)] ∧ SqL K H a (ns.map V.int) ∧ k ≤ 1000 ∧ ∀ H' p, Same H H' → H p = none → PotOk H' p 0 → Q (.ref p) H'
theorem ok_law_pot (T : TX K mg) : FnOk P w K mg base CX0 1 (He.ga K "_law_pot") T.fd_law_pot ["script", "k"] (sp_law_pot K) := by
  refine T.F_law_pot.ok sc_law_pot (fun vs H Q E h => ?_) (fun cdv A outer st H vs Q E hr h => ?_)
  · obtain ⟨a, ns, k, rfl, _⟩ := h
    rfl
  · obtain ⟨a, ns, k, rfl, hS, hk, kq⟩ := h
    refine ⟨_, PSs.nox (pss_cons (ps_set (i := 2) sc_law_pot.nd rfl (Or.inl rfl) pe_int)
 (Evl.pss_cut (ps_if (pt_cmpR op_lt (pv 1) (pe_callB call_len_seq rfl T.n_len PySem.boot_len (pa_cons (pv 0) pa_nil)) (nomark _))
 (pss_one (ps_set (i := 2) sc_law_pot.nd rfl (Or.inl rfl) (pe_op op_mod (pe_callB call_abs rfl T.n_abs (by decide +kernel) (pa_cons (pe_ix ix_list (pv 0) (pv 1) (fun _ _ => rfl)) pa_nil)) (pe_op op_powW (pe_op op_powW pe_int pe_int) pe_int))))
 pss_nil)
 (pss_one (ps_ret (pe_lst (pa_cons (pe_op op_mulW (pv 2) (pe_callTy call_int1 rfl T.n_int (by decide +kernel) (pa_cons (pe_cmpR op_ge (pv 2) (pe_op op_powW pe_int pe_int) (nomark _)) pa_nil))) (pa_cons (pe_op op_mod (pe_op op_powW (pe_op op_add (pe_op op_add (pe_op op_mod (pv 2) pe_int) (pe_op op_mulW pe_int (pv 1))) pe_int) pe_int) pe_int) (pa_cons pe_int pa_nil)))))))), ?_⟩
    refine ⟨fun σ' H' => ∃ cell : Int, σ' = [some (.ref a), some (.int (k : Int)), some (.int cell)] ∧ H' = H ∧ 0 ≤ cell ∧ cell < 2 ^ 2000, ?_, ?_⟩
    · refine ⟨_, rfl, _, rfl, a, _, rfl, .inl hS, _, _, rfl, rfl, _, rfl, ?_⟩
      refine ite2 (fun hc => ?_) (fun hc => ?_)
      · have hc' := of_decide_eq_true hc
        rw [List.length_map] at hc'
        obtain ⟨n, hn⟩ : ∃ n, ns[k]? = some n := ⟨ns[k]'(by omega), List.getElem?_eq_getElem (by omega)⟩
        refine ⟨_, rfl, _, rfl, a, _, _, _, rfl, rfl, hS, at_of (v := V.int n) (by rw [List.getElem?_map, hn]; rfl) rfl, _, rfl, ?_⟩
        have p1 : (0 : Int) < 10 ^ (60 : Int).toNat := Int.pow_pos (by decide)
        have p2 : (0 : Int) < ((10 : Int) ^ (60 : Int).toNat) ^ (10 : Int).toNat := Int.pow_pos p1
        refine ⟨_, _, rfl, rfl, powW_of (a := 4) (by decide) (by decide) (by decide) (by decide), _, _, rfl, rfl, powW_of (a := 200) (by decide) (by decide +kernel) (by decide) (by decide), _, _, rfl, rfl, p2, ?_⟩
        refine ⟨_, rfl, rfl, Int.emod_nonneg _ (Int.ne_of_gt p2), Int.lt_trans (Int.emod_lt_of_pos _ p2) ten600⟩
      · exact ⟨0, rfl, rfl, by decide, Int.pow_pos (by decide)⟩
    · rintro σ' H' ⟨cell, rfl, rfl, c0, c1⟩
      have cn : cell.natAbs < 2 ^ 2000 := by
        have z : ((cell.natAbs : Nat) : Int) < ((2 ^ 2000 : Nat) : Int) := by
          rw [Int.natAbs_of_nonneg c0]
          exact_mod_cast c1
        exact_mod_cast z
      refine ⟨_, rfl, _, rfl, _, _, rfl, rfl, powW_of (a := 4) (by decide) (by decide) (by decide) (by decide), _, _, rfl, rfl, .inr ⟨_, rfl, ?_⟩⟩
      have bb : ∀ b : Bool, (0 : Int) ≤ (if b = true then 1 else 0) ∧ (if b = true then 1 else 0 : Int) ≤ 1 := fun b => by cases b <;> decide
      obtain ⟨d0, d1⟩ := bb (decide ((10 : Int) ^ (18 : Int).toNat ≤ cell))
      generalize (if decide ((10 : Int) ^ (18 : Int).toNat ≤ cell) = true then 1 else 0 : Int) = d at d0 d1
      refine ⟨_, _, rfl, rfl, wide_mul (a := 2000) (b := 2) cn (by omega) (by decide) (by decide) (by decide), ?_⟩
      have m1 : 0 ≤ cell % 2147483629 := Int.emod_nonneg _ (by decide)
      have m2 : cell % 2147483629 < 2147483629 := Int.emod_lt_of_pos _ (by decide)
      refine ⟨_, rfl, _, _, rfl, rfl, (show (0 : Int) < 2147483629 by decide), _, rfl, _, _, rfl, rfl, wide_mul (a := 20) (b := 20) (by decide) (by omega) (by decide) (by decide) (by decide), _, _, rfl, rfl, _, _, rfl, rfl, _, _, rfl, rfl, powW_of (a := 64) (by decide) (by omega) (by decide) (by decide), _, _, rfl, rfl, (show (0 : Int) < 2305843009213693951 by decide), ?_⟩
      refine ⟨by show 3 ≤ sizeLine; decide, fun p hp => kq _ p (same_new hp) hp ⟨_, _, _, upd_same, Int.mul_nonneg c0 d0, ?_, Int.emod_nonneg _ (by decide), Int.lt_of_lt_of_le (Int.emod_lt_of_pos _ (by decide)) (by decide), Int.le_refl 0, Int.le_refl 0⟩⟩
      have z := Int.mul_le_mul_of_nonneg_left d1 c0
      rw [Int.mul_one] at z
      exact Int.lt_of_le_of_lt z c1
def sp_law_take : Sp := fun vs H Q _ => ∃ (p : Addr) (many B : Int), vs = [.ref p, .int many] ∧ 0 < many ∧ many < 2 ^ 60 ∧ PotOk H p B ∧ B < 2 ^ 40 ∧ ∀ H' v, But p H H' → PotOk H' p (B + 1) → 0 ≤ v → v < many → Q (.int v) H'
theorem ok_law_take (T : TX K mg) : FnOk P w K mg base CX0 1 (He.ga K "_law_take") T.fd_law_take ["pot", "many"] sp_law_take := by
  refine T.F_law_take.ok sc_law_take (fun vs H Q E h => ?_) (fun cdv A outer st H vs Q E hr h => ?_)
  · obtain ⟨p, many, B, rfl, _⟩ := h
    rfl
  · obtain ⟨p, many, B, rfl, hm0, hm1, ⟨x, y, c, hp, x0, x1, y0, y1, c0, c1⟩, hB, kq⟩ := h
    refine ⟨_, PSs.nox (pss_cons (ps_if (pt_cmpR op_gt (pe_ix ix_list (pv 0) pe_int (fun _ _ => rfl)) pe_int (nomark _))
 (pss_cons (ps_set (i := 2) sc_law_take.nd rfl (Or.inl rfl) (pe_op op_mod (pe_ix ix_list (pv 0) pe_int (fun _ _ => rfl)) (pv 1)))
 (pss_cons (ps_asg (pe_op op_fdivW (pe_ix ix_list (pv 0) pe_int (fun _ _ => rfl)) (pv 1)) (pg_sub (pv 0) pe_int set_list))
 (pss_one (ps_ret (pv 2)))))
 pss_nil)
 (pss_cons (ps_asg (pe_op op_add (pe_ix ix_list (pv 0) pe_int (fun _ _ => rfl)) pe_int) (pg_sub (pv 0) pe_int set_list))
 (pss_cons (ps_set (i := 3) sc_law_take.nd rfl (Or.inl rfl) (pe_op op_mod (pe_op op_powW (pe_op op_add (pe_ix ix_list (pv 0) pe_int (fun _ _ => rfl)) (pe_op op_mulW pe_int (pe_ix ix_list (pv 0) pe_int (fun _ _ => rfl)))) pe_int) pe_int))
 (pss_cons (ps_set (i := 4) sc_law_take.nd rfl (Or.inl rfl) (pe_op op_mod (pe_op op_powW (pe_op op_add (pe_op op_add (pv 3) (pe_op op_mod (pe_ix ix_list (pv 0) pe_int (fun _ _ => rfl)) pe_int)) (pe_op op_mulW pe_int (pe_ix ix_list (pv 0) pe_int (fun _ _ => rfl)))) pe_int) pe_int))
 (pss_one (ps_ret (pe_op op_mod (pe_op op_fdivW (pv 4) pe_int) (pv 1)))))))), ?_⟩
    have i0 : ∀ (a b c : V), atI [a, b, c] 0 = some a := fun _ _ _ => rfl
    have i1 : ∀ (a b c : V), atI [a, b, c] 1 = some b := fun _ _ _ => rfl
    have i2 : ∀ (a b c : V), atI [a, b, c] 2 = some c := fun _ _ _ => rfl
    have bt : ∀ {o : HO}, But p H (upd H p o) := (But.refl p H).upd
    refine ⟨_, rfl, p, _, _, _, rfl, rfl, SqL.of hp, i0 _ _ _, _, _, rfl, rfl, _, rfl, ?_⟩
    refine ite2 (fun hc => ?_) (fun hc => ?_)
    · refine ⟨_, rfl, p, _, _, _, rfl, rfl, SqL.of hp, i0 _ _ _, _, rfl, _, _, rfl, rfl, hm0, ?_⟩
      refine ⟨_, rfl, p, _, _, _, rfl, rfl, SqL.of hp, i0 _ _ _, _, rfl, _, _, rfl, rfl, wide_div (b := 60) hm0 (by omega) (by decide) (by decide), _, rfl, p, _, _, _, rfl, rfl, hp, rfl, ?_⟩
      refine ⟨_, rfl, kq _ _ bt ⟨_, _, _, upd_same, Int.ediv_nonneg x0 (Int.le_of_lt hm0), Int.lt_of_le_of_lt (Int.ediv_le_self _ x0) x1, y0, y1, c0, by omega⟩ (Int.emod_nonneg _ (Int.ne_of_gt hm0)) (Int.emod_lt_of_pos _ hm0)⟩
    · refine ⟨_, rfl, p, _, _, _, rfl, rfl, SqL.of hp, i2 _ _ _, _, _, rfl, rfl, _, rfl, p, _, _, _, rfl, rfl, hp, rfl, ?_⟩
      have h2 : upd H p (.lst ([V.int x, V.int y, V.int c].set 2 (.int (c + 1)))) p = some (.lst [.int x, .int y, .int (c + 1)]) := upd_same
      refine ⟨_, rfl, p, _, _, _, rfl, rfl, SqL.of h2, i1 _ _ _, _, rfl, p, _, _, _, rfl, rfl, SqL.of h2, i2 _ _ _, ?_⟩
      refine ⟨_, _, rfl, rfl, wide_mul (a := 20) (b := 42) (by decide) (by omega) (by decide) (by decide) (by decide), _, _, rfl, rfl, _, _, rfl, rfl, powW_of (a := 64) (by decide) (by omega) (by decide) (by decide), _, _, rfl, rfl, (show (0 : Int) < 2305843009213693921 by decide), ?_⟩
      have m1 : 0 ≤ (y + 104729 * (c + 1)) ^ (3 : Int).toNat % 2305843009213693921 := Int.emod_nonneg _ (by decide)
      have m2 : (y + 104729 * (c + 1)) ^ (3 : Int).toNat % 2305843009213693921 < 2305843009213693921 := Int.emod_lt_of_pos _ (by decide)
      generalize (y + 104729 * (c + 1)) ^ (3 : Int).toNat % 2305843009213693921 = one at m1 m2
      refine ⟨_, rfl, _, rfl, p, _, _, _, rfl, rfl, SqL.of h2, i1 _ _ _, _, _, rfl, rfl, (show (0 : Int) < 65537 by decide), _, _, rfl, rfl, _, rfl, p, _, _, _, rfl, rfl, SqL.of h2, i2 _ _ _, ?_⟩
      have m3 : 0 ≤ y % 65537 := Int.emod_nonneg _ (by decide)
      have m4 : y % 65537 < 65537 := Int.emod_lt_of_pos _ (by decide)
      generalize y % 65537 = yy at m3 m4
      refine ⟨_, _, rfl, rfl, wide_mul (a := 20) (b := 42) (by decide) (by omega) (by decide) (by decide) (by decide), _, _, rfl, rfl, _, _, rfl, rfl, powW_of (a := 64) (by decide) (by omega) (by decide) (by decide), _, _, rfl, rfl, (show (0 : Int) < 2305843009213693907 by decide), ?_⟩
      refine ⟨_, rfl, _, _, rfl, rfl, ⟨by decide, by decide⟩, _, rfl, _, _, rfl, rfl, hm0, ?_⟩
      exact kq _ _ bt ⟨_, _, _, h2, x0, x1, y0, y1, by omega, by omega⟩ (Int.emod_nonneg _ (Int.ne_of_gt hm0)) (Int.emod_lt_of_pos _ hm0)
end
end K12

namespace K12
open PySem PySem.Spec PyProof.Rows L2 RZ HX TR
theorem PotOk.keep {H H' : Hp} {p : Addr} {B : Int} (h : PotOk H p B) (b : But p H H') : Keep H H' := Keep.but b fun u z => by
  obtain ⟨x, y, c, h1, _⟩ := h
  rw [h1] at z
  cases z
  rfl
theorem PotOk.noTup {H : Hp} {p : Addr} {B : Int} (h : PotOk H p B) : ∀ u, H p = some u → tpb u = false := fun u z => by
  obtain ⟨x, y, c, h1, _⟩ := h
  rw [h1] at z
  cases z
  rfl
section
variable {P : Program} {w : World} {K : PySem.W.Frag} {mg : Str → Option Value} {base : Heap}
def sp_law_shape (N : Nat) : Sp := fun vs H Q _ => ∃ (p : Addr) (room l wide : Nat) (top : Bool) (B : Int), vs = [.ref p, .int (room : Int), .int ((l + 1 : Nat) : Int), .bl top, .int (wide : Int)] ∧ l < N ∧ 3 ≤ room ∧ room ≤ 8 ∧ wide ≤ 1000 ∧ PotOk H p B ∧ B + cS room l < 2 ^ 39 ∧
  ∀ (H' : Hp) (v : V) (s : Sh l), But p H H' → PotOk H' p (B + cS room l) → ShAt H' l v s → WfSh room l top s → Q v H'
theorem ok_law_shape (T : TX K mg) : ∀ N : Nat, FnOk P w K mg base CX0 (N + 2) (He.ga K "_law_shape") T.fd_law_shape ["pot", "room", "levels", "top", "wide"] (sp_law_shape N) := by
  intro N
  induction N with
  | zero =>
    refine T.F_law_shape.ok sc_law_shape (fun vs H Q E h => ?_) (fun cdv A outer st H vs Q E hr h => ?_)
    · obtain ⟨p, room, l, wide, top, B, rfl, _⟩ := h
      rfl
    · obtain ⟨p, room, l, wide, top, B, rfl, h1, _⟩ := h
      omega
  | succ N ih =>
    have G_law_shape := ih
    have b_law_shape := b_law_shape T
    have G_law_take : FnOk P w K mg base CX0 1 (He.ga K "_law_take") T.fd_law_take ["pot", "many"] sp_law_take := ok_law_take T
    have b_law_take := b_law_take T
    refine T.F_law_shape.ok sc_law_shape (fun vs H Q E h => ?_) (fun cdv A outer st H vs Q E hr h => ?_)
    · obtain ⟨p, room, l, wide, top, B, rfl, _⟩ := h
      rfl
    · obtain ⟨p, room, l, wide, top, B, rfl, hl, hr3, hr8, hw, hp, hB, kq⟩ := h
      refine ⟨_, PSs.nox (Evl.pss_cut (ps_set (i := 5) sc_law_shape.nd rfl (Or.inl rfl) (pe_ix ix_list (pe_lst (pa_cons (pe_op op_fdivW (pe_op op_add (pv 1) pe_int) pe_int) (pa_cons (pe_ix ix_list (pe_lst (pa_cons pe_int (pa_cons pe_int pa_nil))) (pe_callTy call_int1 rfl T.n_int (by decide +kernel) (pa_cons (pe_cmpR op_eq (pv 2) pe_int (nomark _)) pa_nil)) (fun _ _ => rfl)) pa_nil))) (pe_callTy call_int1 rfl T.n_int (by decide +kernel) (pa_cons (pv 3) pa_nil)) (fun _ _ => rfl)))
 (pss_cons (ps_if (pt_cmpR op_eq (pv 2) pe_int (nomark _))
 (pss_one (ps_ret (pe_op op_add (pv 5) (pe_call G_law_take (hr.mono (by first | decide | omega)) rfl T.g_law_take T.F_law_take.kp b_law_take .nil pass0 (pa_cons (pv 0) (pa_cons (pe_op op_add (pe_op op_sub (pv 1) (pv 5)) pe_int) pa_nil))))))
 pss_nil)
 (Evl.pss_cut (ps_set (i := 6) sc_law_shape.nd rfl (Or.inl rfl) (pe_op op_add (pv 5) (pe_call G_law_take (hr.mono (by first | decide | omega)) rfl T.g_law_take T.F_law_take.kp b_law_take .nil pass0 (pa_cons (pv 0) (pa_cons (pe_op op_add (pe_callB (call_min2 rfl) rfl T.n_min (by decide +kernel) (pa_cons (pv 4) (pa_cons (pe_op op_sub (pv 1) (pv 5)) pa_nil))) pe_int) pa_nil)))))
 (pss_one (ps_ret (pe_callTy call_tuple_of rfl T.n_tuple (by decide +kernel) (pa_cons (pe_lc (own := [("k", 7)]) (g := gName 7) (tt := tYes) rfl sc_law_shape.nd (pi_range1 rfl T.n_range (pa_cons (pv 6) pa_nil)) (blkOk_by (own := [("k", 7)]) (N := ["pot", "room", "levels", "top", "wide", "least", "many", "k"]) (sc := defScope s_law_shape) (by decide +kernel)) (fun _ _ _ _ _ => (pg_name (i := 7) sc_law_shape.nd rfl (Or.inl rfl))) (fun _ _ _ _ _ => pts_nil) (fun _ _ _ _ _ => (pe_call G_law_shape (hr.mono (by first | decide | omega)) rfl T.g_law_shape T.F_law_shape.kp b_law_shape .nil pass0 (pa_cons (pv 0) (pa_cons (pv 1) (pa_cons (pe_op op_sub (pv 2) pe_int) (pa_cons pe_bl (pa_cons (pv 4) pa_nil)))))))) pa_nil))))))), ?_⟩
      refine ⟨fun σ' H' => σ' = [some (.ref p), some (.int (room : Int)), some (.int ((l + 1 : Nat) : Int)), some (.bl top), some (.int (wide : Int)), some (.int ((loS room l top : Nat) : Int)), none, none] ∧ Same H H', ?_, ?_⟩
      · refine ⟨_, rfl, _, _, rfl, rfl, _, _, rfl, rfl, ⟨by decide, by decide⟩, by show 2 ≤ sizeLine; decide, fun q hq => ?_⟩
        refine ⟨_, rfl, rfl, .inr ⟨_, rfl, ?_⟩⟩
        have hx : ∃ z : Int, atI [V.int 2, V.int 0] (if decide (V.int ((l + 1 : Nat) : Int) = V.int 1) = true then 1 else 0) = some (.int z) ∧ z = ((if l = 0 then 0 else 2 : Nat) : Int) := by
          by_cases e : l = 0
          · subst e
            exact ⟨0, rfl, rfl⟩
          · have e2 : decide (V.int ((l + 1 : Nat) : Int) = V.int 1) = false := decide_eq_false fun z => e (by injection z with z; omega)
            rw [e2]
            exact ⟨2, rfl, by rw [if_neg e]; rfl⟩
        obtain ⟨z, hz1, hz2⟩ := hx
        refine ⟨q, _, _, _, rfl, rfl, SqL.of upd_same, hz1, by show 2 ≤ sizeLine; decide, fun q2 hq2 => ?_⟩
        refine ⟨_, rfl, .inr ⟨_, rfl, ?_⟩⟩
        have hy : atI [V.int (((room : Int) + 1) / 2), V.int z] (if top = true then 1 else 0) = some (.int ((loS room l top : Nat) : Int)) := by
          unfold loS
          cases top with
          | true =>
            rw [if_pos rfl, if_pos rfl, ← hz2]
            rfl
          | false =>
            have ez : ((room : Int) + 1) / 2 = (((room + 1) / 2 : Nat) : Int) := by omega
            rw [ez]
            rfl
        refine ⟨q2, _, _, _, rfl, rfl, SqL.of upd_same, hy, ?_⟩
        exact ⟨rfl, same_upd (same_new hq) (Same.free (same_new hq) hq2)⟩
      · rintro σ' H1 ⟨rfl, s1⟩
        have hp1 := hp.same s1
        have lo_le : loS room l top ≤ room := by unfold loS; split <;> (try split) <;> omega
        refine ⟨_, rfl, rfl, _, rfl, ?_⟩
        by_cases e : l = 0
        · have e2 : decide (V.int ((l + 1 : Nat) : Int) = V.int 1) = true := decide_eq_true (by rw [e]; rfl)
          rw [e2]
          refine iteT ?_
          subst e
          refine ⟨_, rfl, _, rfl, _, rfl, _, rfl, _, _, rfl, rfl, _, _, rfl, rfl, ?_⟩
          refine ⟨p, _, B, rfl, by omega, by omega, hp1, by omega, fun H2 v b2 hp2 l2 u2 => ⟨_, _, rfl, rfl, ?_⟩⟩
          refine kq H2 _ (loS room 0 top + v.toNat : Nat) (fun b o nb z => b2 b o nb (s1 b o z)) hp2 ?_ ⟨by show loS room 0 top ≤ loS room 0 top + v.toNat; omega, by show loS room 0 top + v.toNat ≤ room; omega⟩
          show V.int (((loS room 0 top : Nat) : Int) + v) = V.int ((loS room 0 top + v.toNat : Nat) : Int)
          congr 1
          omega
        · have e2 : decide (V.int ((l + 1 : Nat) : Int) = V.int 1) = false := decide_eq_false fun z => e (by injection z with z; omega)
          rw [e2]
          refine iteF ?_
          obtain ⟨l', rfl⟩ : ∃ l', l = l' + 1 := ⟨l - 1, by omega⟩
          have c1 : 1 ≤ cS room l' := by cases l' <;> (unfold cS; omega)
          have cc : cS room (l' + 1) = 1 + room * cS room l' := rfl
          have rc : 1 ≤ room * cS room l' := Nat.mul_pos (by omega) c1
          refine ⟨fun σ' H' => ∃ m : Nat, σ' = [some (.ref p), some (.int (room : Int)), some (.int ((l' + 1 + 1 : Nat) : Int)), some (.bl top), some (.int (wide : Int)), some (.int ((loS room (l' + 1) top : Nat) : Int)), some (.int (m : Int)), none] ∧ But p H H' ∧
            PotOk H' p (B + 1) ∧ loS room (l' + 1) top ≤ m ∧ m ≤ room, ?_, ?_⟩
          · refine ⟨_, rfl, _, rfl, _, rfl, _, rfl, _, rfl, _, _, rfl, rfl, _, _, rfl, _, _, rfl, rfl, ?_⟩
            refine ⟨p, _, B, rfl, by split <;> omega, by split <;> omega, hp1, by omega, fun H2 v b2 hp2 l2 u2 => ⟨_, _, rfl, rfl, ?_⟩⟩
            have u3 : v ≤ (room : Int) - ((loS room (l' + 1) top : Nat) : Int) := by split at u2 <;> omega
            refine ⟨loS room (l' + 1) top + v.toNat, ?_, fun b o nb z => b2 b o nb (s1 b o z), hp2, by omega, by omega⟩
            show [some (V.ref p), some (V.int (room : Int)), some (V.int ((l' + 1 + 1 : Nat) : Int)), some (V.bl top), some (V.int (wide : Int)), some (V.int ((loS room (l' + 1) top : Nat) : Int)), some (V.int (((loS room (l' + 1) top : Nat) : Int) + v)), none] = _
            rw [show ((loS room (l' + 1) top : Nat) : Int) + v = ((loS room (l' + 1) top + v.toNat : Nat) : Int) by omega]
          rintro σ' H2 ⟨m, rfl, bB, hp2, lom, mle⟩
          refine ⟨_, rfl, _, rfl, by omega, by omega, fun D hD => ?_⟩
          rw [show ((m : Int)).toNat = m by omega]
          have npD : p ≠ D := hp2.ne hD
          have mono : ∀ i : Nat, i ≤ m → B + 1 + ((i * cS room l' : Nat) : Int) + (cS room l' : Int) * ((if i < m then 1 else 0 : Nat) : Int) ≤ B + cS room (l' + 1) := by
            intro i hi
            have h1 : (i + (if i < m then 1 else 0)) * cS room l' ≤ room * cS room l' := Nat.mul_le_mul_right _ (by split <;> omega)
            rw [Nat.add_mul] at h1
            have e3 : ((i * cS room l' + (if i < m then 1 else 0) * cS room l' : Nat) : Int) ≤ ((room * cS room l' : Nat) : Int) := by omega
            have e4 : (cS room l' : Int) * ((if i < m then 1 else 0 : Nat) : Int) = (((if i < m then 1 else 0) * cS room l' : Nat) : Int) := by
              rw [Int.mul_comm]
              rfl
            rw [e4, cc]
            omega
          refine lc_it walk_range (fun i H' => But p H2 H' ∧ PotOk H' p (B + 1 + ((i * cS room l' : Nat) : Int)) ∧ ∃ (xs : List V) (ks : List (Sh l')), H' D = some (.lst xs) ∧ xs.length = i ∧ ks.length = i ∧ Paired (ShAt H' l') xs ks ∧ ∀ k ∈ ks, WfSh room l' false k)
            ⟨(But.refl p H2).new hD, by rw [Nat.zero_mul]; exact (hp2.le (by omega)).new hD, [], [], upd_same, rfl, rfl, .nil, fun k hk => nomatch hk⟩ (fun _ _ _ _ => trivial) ?_ ?_
          · rintro i x H3 H4 hi ⟨b3, hp3, xs, ks, hD3, hxl, hkl, hpr, hwf⟩ ⟨rfl, rfl⟩
            have mi := mono i (by omega)
            rw [if_pos hi] at mi
            refine ⟨rfl, ?_⟩
            dsimp only [tYes]
            rw [if_pos rfl]
            refine ⟨_, rfl, _, rfl, _, rfl, _, _, rfl, rfl, _, rfl, ?_⟩
            refine ⟨p, room, l', wide, false, B + 1 + ((i * cS room l' : Nat) : Int), ?_, by omega, hr3, hr8, hw, hp3, by omega, fun H5 v5 s5 b5 hp5 hs5 hw5 => ?_⟩
            · show [V.ref p, V.int (room : Int), V.int ((((l' + 1) + 1 : Nat) : Int) - 1), V.bl false, V.int (wide : Int)] = _
              rw [show (((l' + 1) + 1 : Nat) : Int) - 1 = ((l' + 1 : Nat) : Int) by omega]
            have k5 : Keep H4 H5 := hp3.keep b5
            have hD5 := b5 _ _ npD.symm hD3
            have tD : ∀ u, H5 D = some u → tpb u = false := fun u z => by
              rw [hD5] at z
              cases z
              rfl
            have k6 : Keep H5 (upd H5 D (.lst (xs ++ [v5]))) := (Keep.refl H5).upd tD
            refine ⟨xs, hD5, ?_, fun b o nb z => ?_, ?_, xs ++ [v5], ks ++ [s5], upd_same, by rw [List.length_append, hxl]; rfl, by rw [List.length_append, hkl]; rfl, ?_, ?_⟩
            · rw [hxl]
              exact Nat.lt_of_le_of_lt (by omega : i ≤ 1000) (by decide)
            · rw [upd_ne (ne_of_none z hD)]
              exact b5 b o nb (b3 b o nb z)
            · have hp6 : PotOk (upd H5 D (.lst (xs ++ [v5]))) p (B + 1 + ((i * cS room l' : Nat) : Int) + cS room l') := by
                obtain ⟨x, y, c, h1, r⟩ := hp5
                exact ⟨x, y, c, by rw [upd_ne npD]; exact h1, r⟩
              refine hp6.le ?_
              rw [Nat.succ_mul]
              omega
            · exact paired_snoc (hs5.keep k6) (paired_imp (fun _ _ r => (ShAt.keep k5 r).keep k6) hpr)
            · intro k hk
              rcases List.mem_append.mp hk with hk | hk
              · exact hwf k hk
              · obtain rfl := List.mem_singleton.mp hk
                exact hw5
          · rintro H3 ⟨b3, hp3, xs, ks, hD3, hxl, hkl, hpr, hwf⟩
            refine ⟨D, _, rfl, .inl ⟨SqL.of hD3, fun q hq => ?_⟩⟩
            have mi := mono m (by omega)
            rw [if_neg (by omega)] at mi
            refine kq _ (.ref q) ks (fun b o nb z => ?_) ((hp3.new hq).le (by omega)) ⟨q, xs, rfl, upd_same, paired_imp (fun _ _ r => ShAt.keep (Keep.of (same_new hq)) r) hpr⟩ ⟨?_, ?_, hwf⟩
            · have z3 := b3 b o nb (bB b o nb z)
              rw [upd_ne (ne_of_none z3 hq)]
              exact z3
            · show loS room (l' + 1) top ≤ ks.length
              omega
            · show ks.length ≤ room
              omega
end
end K12

namespace K12
open PySem PySem.Spec PyProof.Rows L2 RZ HX TR
theorem sum_cast {α : Type} (f : α → Nat) : ∀ xs : List α, (xs.map fun x => ((f x : Nat) : Int)).sum = ((xs.map f).sum : Nat)
  | [] => rfl
  | x :: xs => by
    rw [List.map_cons, List.sum_cons, List.map_cons, List.sum_cons, sum_cast f xs]
    omega
section
variable {P : Program} {w : World} {K : PySem.W.Frag} {mg : Str → Option Value} {base : Heap}
def sp_law_many (N : Nat) : Sp := fun vs H Q _ => ∃ (l room : Nat) (top : Bool) (v : V) (s : Sh l), vs = [v] ∧ l < N ∧ room ≤ 8 ∧ WfSh room l top s ∧ ShAt H l v s ∧ (∀ H', Same H H' → Q (.int (cntS l s : Int)) H')
theorem ok_law_many (T : TX K mg) : ∀ N : Nat, FnOk P w K mg base CX0 (N + 1) (He.ga K "_law_many") T.fd_law_many ["shape"] (sp_law_many N) := by
  intro N
  induction N with
  | zero =>
    refine T.F_law_many.ok sc_law_many (fun vs H Q E h => ?_) (fun cdv A outer st H vs Q E hr h => ?_)
    · obtain ⟨l, room, top, v, s, rfl, _⟩ := h
      rfl
    · obtain ⟨l, room, top, v, s, rfl, h1, _⟩ := h
      omega
  | succ N ih =>
    have G_law_many := ih
    have b_law_many := b_law_many T
    refine T.F_law_many.ok sc_law_many (fun vs H Q E h => ?_) (fun cdv A outer st H vs Q E hr h => ?_)
    · obtain ⟨l, room, top, v, s, rfl, _⟩ := h
      rfl
    · obtain ⟨l, room, top, v, s, rfl, hl, hr8, hwf, hs, kq⟩ := h
      refine ⟨_, PSs.nox (pss_cons (ps_if (pt_val (pe_callB call_isi rfl T.n_isinstance (by decide +kernel) (pa_cons (pv 0) (pa_cons (pe_ty "int" T.n_int (by decide +kernel)) pa_nil))))
 (pss_one (ps_ret (pv 0)))
 pss_nil)
 (pss_one (ps_ret (pe_callB (cr_sum rfl) rfl T.n_sum (by decide +kernel) (pa_cons (pe_lc (own := [("kid", 1)]) (g := gName 1) (tt := tYes) rfl sc_law_many.nd (pi_tup (pv 0)) (blkOk_by (own := [("kid", 1)]) (N := ["shape", "kid"]) (sc := defScope s_law_many) (by decide +kernel)) (fun _ _ _ _ _ => (pg_name (i := 1) sc_law_many.nd rfl (Or.inl rfl))) (fun _ _ _ _ _ => pts_nil) (fun _ _ _ _ _ => (pe_call G_law_many (hr.mono (by first | decide | omega)) rfl T.g_law_many T.F_law_many.kp b_law_many .nil pass0 (pa_cons (pv 1) pa_nil)))) pa_nil))))), ?_⟩
      cases l with
      | zero =>
        obtain rfl : v = .int (s.n : Int) := hs
        refine ⟨_, rfl, _, _, .type "int", .type "int", true, rfl, .ty "int", .base (.int _), kit_ty (by decide +kernel), true, rfl, ?_⟩
        refine iteT ?_
        exact ⟨_, rfl, kq H (Same.refl H)⟩
      | succ l =>
        obtain ⟨a, xs, rfl, ha, hp⟩ := hs
        refine ⟨_, rfl, _, _, .type "tuple", .type "int", false, rfl, .ty "int", .base (.tup ha), kit_ty (by decide +kernel), false, rfl, ?_⟩
        refine iteF ?_
        refine ⟨_, rfl, a, rfl, ⟨xs, SqT.of ha⟩, fun D hD => ?_⟩
        have hlen : xs.length = s.ks.length := Paired.length hp
        refine lc_it walk_tup (fun i H' => Same H H' ∧ H' D = some (.lst ((s.ks.take i).map fun k => V.int (cntS l k : Int)))) ⟨same_new hD, upd_same⟩ (fun i H' _ z => SqT.of (z.1 _ _ ha)) ?_ ?_
        · rintro i x H3 H4 hi ⟨s3, hD3⟩ ⟨rfl, hx⟩
          obtain ⟨k, hk, hsk⟩ := pget1 hp hx
          refine ⟨rfl, ?_⟩
          dsimp only [tYes]
          rw [if_pos rfl]
          refine ⟨_, rfl, l, room, false, x, k, rfl, by omega, hr8, hwf.2.2 k (List.mem_of_getElem? hk), hsk.keep (Keep.of s3), fun H5 s5 => ?_⟩
          refine ⟨_, s5 _ _ hD3, ?_, same_upd (s3.trans s5) hD, ?_⟩
          · rw [List.length_map, List.length_take]
            have z := hwf.2.1
            exact Nat.lt_of_le_of_lt (by omega : _ ≤ 8) (by decide)
          · rw [upd_same, take_more hk, List.map_append]
            rfl
        · rintro H3 ⟨s3, hD3⟩
          rw [hlen, List.take_length] at hD3
          refine ⟨D, s.ks.map fun k => (cntS l k : Int), rfl, SqL.of (by rw [hD3, List.map_map]; rfl), ?_⟩
          rw [sum_cast]
          exact kq H3 s3
def sp_law_pages (N : Nat) : Sp := fun vs H Q _ => ∃ (l room : Nat) (top : Bool) (v : V) (s : Sh l), vs = [v] ∧ l < N ∧ room ≤ 8 ∧ WfSh room l top s ∧ ShAt H l v s ∧ (∀ H', Same H H' → Q (.int (pgsS l s : Int)) H')
theorem ok_law_pages (T : TX K mg) : ∀ N : Nat, FnOk P w K mg base CX0 (N + 1) (He.ga K "_law_pages") T.fd_law_pages ["shape"] (sp_law_pages N) := by
  intro N
  induction N with
  | zero =>
    refine T.F_law_pages.ok sc_law_pages (fun vs H Q E h => ?_) (fun cdv A outer st H vs Q E hr h => ?_)
    · obtain ⟨l, room, top, v, s, rfl, _⟩ := h
      rfl
    · obtain ⟨l, room, top, v, s, rfl, h1, _⟩ := h
      omega
  | succ N ih =>
    have G_law_pages := ih
    have b_law_pages := b_law_pages T
    refine T.F_law_pages.ok sc_law_pages (fun vs H Q E h => ?_) (fun cdv A outer st H vs Q E hr h => ?_)
    · obtain ⟨l, room, top, v, s, rfl, _⟩ := h
      rfl
    · obtain ⟨l, room, top, v, s, rfl, hl, hr8, hwf, hs, kq⟩ := h
      refine ⟨_, PSs.nox (pss_cons (ps_if (pt_val (pe_callB call_isi rfl T.n_isinstance (by decide +kernel) (pa_cons (pv 0) (pa_cons (pe_ty "int" T.n_int (by decide +kernel)) pa_nil))))
 (pss_one (ps_ret pe_int))
 pss_nil)
 (pss_one (ps_ret (pe_op op_add pe_int (pe_callB (cr_sum rfl) rfl T.n_sum (by decide +kernel) (pa_cons (pe_lc (own := [("kid", 1)]) (g := gName 1) (tt := tYes) rfl sc_law_pages.nd (pi_tup (pv 0)) (blkOk_by (own := [("kid", 1)]) (N := ["shape", "kid"]) (sc := defScope s_law_pages) (by decide +kernel)) (fun _ _ _ _ _ => (pg_name (i := 1) sc_law_pages.nd rfl (Or.inl rfl))) (fun _ _ _ _ _ => pts_nil) (fun _ _ _ _ _ => (pe_call G_law_pages (hr.mono (by first | decide | omega)) rfl T.g_law_pages T.F_law_pages.kp b_law_pages .nil pass0 (pa_cons (pv 1) pa_nil)))) pa_nil)))))), ?_⟩
      cases l with
      | zero =>
        obtain rfl : v = .int (s.n : Int) := hs
        refine ⟨_, rfl, _, _, .type "int", .type "int", true, rfl, .ty "int", .base (.int _), kit_ty (by decide +kernel), true, rfl, ?_⟩
        refine iteT ?_
        exact kq H (Same.refl H)
      | succ l =>
        obtain ⟨a, xs, rfl, ha, hp⟩ := hs
        refine ⟨_, rfl, _, _, .type "tuple", .type "int", false, rfl, .ty "int", .base (.tup ha), kit_ty (by decide +kernel), false, rfl, ?_⟩
        refine iteF ?_
        refine ⟨_, rfl, a, rfl, ⟨xs, SqT.of ha⟩, fun D hD => ?_⟩
        have hlen : xs.length = s.ks.length := Paired.length hp
        refine lc_it walk_tup (fun i H' => Same H H' ∧ H' D = some (.lst ((s.ks.take i).map fun k => V.int (pgsS l k : Int)))) ⟨same_new hD, upd_same⟩ (fun i H' _ z => SqT.of (z.1 _ _ ha)) ?_ ?_
        · rintro i x H3 H4 hi ⟨s3, hD3⟩ ⟨rfl, hx⟩
          obtain ⟨k, hk, hsk⟩ := pget1 hp hx
          refine ⟨rfl, ?_⟩
          dsimp only [tYes]
          rw [if_pos rfl]
          refine ⟨_, rfl, l, room, false, x, k, rfl, by omega, hr8, hwf.2.2 k (List.mem_of_getElem? hk), hsk.keep (Keep.of s3), fun H5 s5 => ?_⟩
          refine ⟨_, s5 _ _ hD3, ?_, same_upd (s3.trans s5) hD, ?_⟩
          · rw [List.length_map, List.length_take]
            have z := hwf.2.1
            exact Nat.lt_of_le_of_lt (by omega : _ ≤ 8) (by decide)
          · rw [upd_same, take_more hk, List.map_append]
            rfl
        · rintro H3 ⟨s3, hD3⟩
          rw [hlen, List.take_length] at hD3
          refine ⟨D, s.ks.map fun k => (pgsS l k : Int), rfl, SqL.of (by rw [hD3, List.map_map]; rfl), _, _, rfl, rfl, ?_⟩
          rw [sum_cast]
          exact kq H3 s3
end
end K12

namespace K12
open PySem PySem.Spec PyProof.Rows L2 RZ HX TR
/-- a list of pairs -/
def PrsAt (H : Hp) (a : Addr) (ps : List (Int × Int)) : Prop := ∃ xs : List V, H a = some (.lst xs) ∧ Paired (PrAt H) xs ps
/-- pairs as a tree has them -/
def PrsOk (ps : List (Int × Int)) : Prop := ps.Pairwise (fun a b => a.1 < b.1) ∧ ∀ q ∈ ps, 0 ≤ q.1 ∧ q.1 ≤ 1000000000 ∧ 0 ≤ q.2 ∧ q.2 ≤ 1000000000
/-- but for the last one the keys are small -/
def PrsLow (ps : List (Int × Int)) : Prop := ∀ (j : Nat) (q : Int × Int), ps[j]? = some q → j + 1 < ps.length → q.1 < 100000000
theorem pick2 {q : Addr} {H : Hp} {a b : Int} {c : Bool} (h : H q = some (.lst [.int a, .int b])) : ∃ v : Int, H q = some (.lst [.int a, .int b]) ∧ atI [V.int a, V.int b] (if c = true then 1 else 0) = some (.int v) ∧ (v = a ∨ v = b) := by
  cases c with
  | true => exact ⟨b, h, rfl, .inr rfl⟩
  | false => exact ⟨a, h, rfl, .inl rfl⟩
theorem paired_set {α β : Type} {R : α → β → Prop} {x : α} {y : β} : ∀ {xs : List α} {ys : List β} {c : Nat}, Paired R xs ys → R x y → Paired R (xs.set c x) (ys.set c y)
  | _, _, _, .nil, _ => .nil
  | _, _, 0, .cons _ rs, h => .cons h rs
  | _, _, _ + 1, .cons r rs, h => .cons r (paired_set rs h)
theorem prsOk_set {ps : List (Int × Int)} {c : Nat} {y : Int × Int} (h : PrsOk ps) (hl : ps.length = c + 1) (hy : ps[c]? = some y) (hb : ∀ q ∈ ps, q.1 < 10 ^ 9) : PrsOk (ps.set c (10 ^ 9, y.2)) := by
  have e : ps = ps.take c ++ [y] := by
    rw [← take_more hy, List.take_of_length_le (by omega)]
  have e2 : ps.set c ((10 : Int) ^ 9, y.2) = ps.take c ++ [((10 : Int) ^ 9, y.2)] := by
    have hl' : (ps.take c).length = c := by rw [List.length_take]; omega
    rw [e, List.set_append, if_neg (by rw [hl']; omega), hl', Nat.sub_self, List.take_left' hl']
    rfl
  have hp := h.1
  rw [e] at hp
  obtain ⟨h1, _, _⟩ := List.pairwise_append.mp hp
  rw [e2]
  refine ⟨List.pairwise_append.mpr ⟨h1, List.pairwise_singleton _ _, fun a ha b hb' => ?_⟩, fun q hq => ?_⟩
  · obtain rfl := List.mem_singleton.mp hb'
    exact hb a (List.mem_of_mem_take ha)
  · rcases List.mem_append.mp hq with hq | hq
    · exact h.2 q (List.mem_of_mem_take hq)
    · obtain rfl := List.mem_singleton.mp hq
      have := h.2 y (by rw [e]; exact List.mem_append_right _ (List.mem_singleton.mpr rfl))
      exact ⟨(by decide : (0 : Int) ≤ 10 ^ 9), (by decide : (10 : Int) ^ 9 ≤ 1000000000), this.2.2⟩
section
variable {P : Program} {w : World} {K : PySem.W.Frag} {mg : Str → Option Value} {base : Heap}
def sp_law_pairs : Sp := fun vs H Q _ => ∃ (p : Addr) (many : Nat) (B : Int), vs = [.ref p, .int (many : Int)] ∧ many ≤ 40000 ∧ PotOk H p B ∧ B + 10 * many + 10 < 2 ^ 39 ∧
  ∀ (H' : Hp) (a : Addr) (ps : List (Int × Int)), But p H H' → PotOk H' p (B + 10 * many + 10) → H a = none → PrsAt H' a ps → ps.length = many → PrsOk ps → PrsLow ps → Q (.ref a) H'
theorem ok_law_pairs (T : TX K mg) : FnOk P w K mg base CX0 2 (He.ga K "_law_pairs") T.fd_law_pairs ["pot", "many"] sp_law_pairs := by
  have G_law_take : FnOk P w K mg base CX0 1 (He.ga K "_law_take") T.fd_law_take ["pot", "many"] sp_law_take := ok_law_take T
  have b_law_take := b_law_take T
  refine T.F_law_pairs.ok sc_law_pairs (fun vs H Q E h => ?_) (fun cdv A outer st H vs Q E hr h => ?_)
  · obtain ⟨p, many, B, rfl, _⟩ := h
    rfl
  · obtain ⟨p, many, B, rfl, hm, hp, hB, kq⟩ := h
    refine ⟨_, PSs.nox (pss_cons (ps_set (i := 2) sc_law_pairs.nd rfl (Or.inl rfl) (pe_lst pa_nil))
 (Evl.pss_cut (ps_set (i := 3) sc_law_pairs.nd rfl (Or.inl rfl) (pe_ix ix_list (pe_lst (pa_cons pe_int (pa_cons (pe_call G_law_take (hr.mono (by first | decide | omega)) rfl T.g_law_take T.F_law_take.kp b_law_take .nil pass0 (pa_cons (pv 0) (pa_cons pe_int pa_nil))) (pa_cons (pe_call G_law_take (hr.mono (by first | decide | omega)) rfl T.g_law_take T.F_law_take.kp b_law_take .nil pass0 (pa_cons (pv 0) (pa_cons (pe_op op_powW pe_int pe_int) pa_nil))) pa_nil)))) (pe_call G_law_take (hr.mono (by first | decide | omega)) rfl T.g_law_take T.F_law_take.kp b_law_take .nil pass0 (pa_cons (pv 0) (pa_cons pe_int pa_nil))) (fun _ _ => rfl)))
 (pss_cons (ps_for PassesOwn.never rfl (pi_range1 rfl T.n_range (pa_cons (pv 1) pa_nil)) (pg_name (i := 4) sc_law_pairs.nd rfl (Or.inl rfl))
 (Evl.pss_cut (ps_expr (pe_bm PySem.F.plainAttrs_list PySem.F.slot_list_append PySem.F.type_list_append mt_append (pv 2) (pa_cons (pe_tup (pa_cons (pv 3) (pa_cons (pe_ix ix_list (pe_lst (pa_cons (pe_call G_law_take (hr.mono (by first | decide | omega)) rfl T.g_law_take T.F_law_take.kp b_law_take .nil pass0 (pa_cons (pv 0) (pa_cons pe_int pa_nil))) (pa_cons (pe_call G_law_take (hr.mono (by first | decide | omega)) rfl T.g_law_take T.F_law_take.kp b_law_take .nil pass0 (pa_cons (pv 0) (pa_cons (pe_op op_add (pe_op op_powW pe_int pe_int) pe_int) pa_nil))) pa_nil))) (pe_callTy call_int1 rfl T.n_int (by decide +kernel) (pa_cons (pe_cmpR op_eq (pe_call G_law_take (hr.mono (by first | decide | omega)) rfl T.g_law_take T.F_law_take.kp b_law_take .nil pass0 (pa_cons (pv 0) (pa_cons pe_int pa_nil))) pe_int (nomark _)) pa_nil)) (fun _ _ => rfl)) pa_nil))) pa_nil)))
 (pss_one (ps_set (i := 3) sc_law_pairs.nd rfl (Or.inl rfl) (pe_op op_add (pe_op op_add (pv 3) pe_int) (pe_ix ix_list (pe_lst (pa_cons (pe_call G_law_take (hr.mono (by first | decide | omega)) rfl T.g_law_take T.F_law_take.kp b_law_take .nil pass0 (pa_cons (pv 0) (pa_cons pe_int pa_nil))) (pa_cons (pe_call G_law_take (hr.mono (by first | decide | omega)) rfl T.g_law_take T.F_law_take.kp b_law_take .nil pass0 (pa_cons (pv 0) (pa_cons pe_int pa_nil))) pa_nil))) (pe_callTy call_int1 rfl T.n_int (by decide +kernel) (pa_cons (pe_cmpR op_eq (pe_call G_law_take (hr.mono (by first | decide | omega)) rfl T.g_law_take T.F_law_take.kp b_law_take .nil pass0 (pa_cons (pv 0) (pa_cons pe_int pa_nil))) pe_int (nomark _)) pa_nil)) (fun _ _ => rfl)))))))
 (Evl.pss_cut (ps_if (PW.pt (pw_and (pt_cmpR op_gt (pv 1) pe_int (nomark _)) (pw_and1 (pt_cmpR op_eq (pe_call G_law_take (hr.mono (by first | decide | omega)) rfl T.g_law_take T.F_law_take.kp b_law_take .nil pass0 (pa_cons (pv 0) (pa_cons pe_int pa_nil))) pe_int (nomark _)))))
 (pss_one (ps_asg (pe_tup (pa_cons (pe_op op_powW pe_int pe_int) (pa_cons (pe_ix ix_tup (pe_ix ix_list (pv 2) (pe_un un_neg pe_int) (fun _ _ => rfl)) pe_int (fun _ _ => rfl)) pa_nil))) (pg_sub (pv 2) (pe_un un_neg pe_int) set_list)))
 pss_nil)
 (pss_one (ps_ret (pv 2))))))), ?_⟩
    refine ⟨Nat.zero_le _, fun f hf => ?_⟩
    have npf : p ≠ f := hp.ne hf
    have hp0 := hp.new (o := .lst []) hf
    -- key
    refine ⟨fun σ' H' => ∃ key : Int, σ' = [some (.ref p), some (.int (many : Int)), some (.ref f), some (.int key), none] ∧ But p H H' ∧ PotOk H' p (B + 3) ∧ H' f = some (.lst []) ∧ 0 ≤ key ∧ key ≤ 1000000, ?_, ?_⟩
    · refine ⟨_, rfl, p, 9, B, rfl, by decide, by decide, hp0, by omega, fun H1 v1 b1 hp1 l1 u1 => ?_⟩
      refine ⟨_, rfl, _, _, rfl, rfl, powW_of (a := 4) (by decide) (by decide) (by decide) (by decide), p, _, B + 1, rfl, by decide, by decide, hp1, by omega, fun H2 v2 b2 hp2 l2 u2 => ?_⟩
      refine ⟨by show 3 ≤ sizeLine; decide, fun q hq => ?_⟩
      have npq : p ≠ q := hp2.ne hq
      refine ⟨_, rfl, p, 3, B + 1 + 1, rfl, by decide, by decide, hp2.new hq, by omega, fun H3 v3 b3 hp3 l3 u3 => ?_⟩
      have hq3 : H3 q = some (.lst [.int 0, .int v1, .int v2]) := b3 _ _ npq.symm upd_same
      have hf2 : H2 f = some (.lst []) := b2 _ _ npf.symm (b1 _ _ npf.symm upd_same)
      have nfq : f ≠ q := ne_of_none hf2 hq
      have hf3 : H3 f = some (.lst []) := b3 _ _ npf.symm (by rw [upd_ne nfq]; exact hf2)
      have bt : But p H H3 := fun b o nb z => b3 b o nb (by
        have z2 := b2 b o nb (b1 b o nb (by rw [upd_ne (ne_of_none z hf)]; exact z))
        rw [upd_ne (ne_of_none z2 hq)]
        exact z2)
      have u2' : v2 < 1000000 := u2
      have pick : ∃ v : Int, atI [V.int 0, V.int v1, V.int v2] v3 = some (.int v) ∧ 0 ≤ v ∧ v ≤ 1000000 := by
        rcases (by omega : v3 = 0 ∨ v3 = 1 ∨ v3 = 2) with rfl | rfl | rfl
        · exact ⟨0, rfl, by omega, by omega⟩
        · exact ⟨v1, rfl, by omega, by omega⟩
        · exact ⟨v2, rfl, by omega, by omega⟩
      obtain ⟨v, hv, hv0, hv1⟩ := pick
      refine ⟨q, _, _, _, rfl, rfl, SqL.of hq3, hv, ?_⟩
      exact ⟨v, rfl, bt, hp3.le (by omega), hf3, hv0, hv1⟩
    rintro σ' H1 ⟨key, rfl, b1, hp1, hf1, k0, k1⟩
    refine ⟨_, rfl, _, rfl, by omega, by omega, ?_⟩
    rw [show ((many : Int)).toNat = many by omega]
    refine for_range (fun i σ H' => ∃ key v4, σ = [some (.ref p), some (.int (many : Int)), some (.ref f), some (.int key), v4] ∧ But p H H' ∧ PotOk H' p (B + 3 + 6 * i) ∧ 0 ≤ key ∧ key ≤ 1000000 + 41 * i ∧
      ∃ ps, PrsAt H' f ps ∧ ps.length = i ∧ PrsOk ps ∧ ∀ q ∈ ps, q.1 < key) ⟨key, _, rfl, b1, hp1.le (by omega), k0, by omega, [], ⟨[], hf1, .nil⟩, rfl, ⟨.nil, fun q hq => nomatch hq⟩, fun q hq => nomatch hq⟩ ?_ ?_
    · rintro i σ H2 hi ⟨key, v4, rfl, b2, hp2, k0, k1, ps, ⟨xs, hx, hpr⟩, hlen, hok, hlt⟩
      have hxl : xs.length = i := by rw [← hlen]; exact Paired.length hpr
      -- found.append
      refine ⟨fun σ' H' => σ' = [some (.ref p), some (.int (many : Int)), some (.ref f), some (.int key), some (.int (0 + (i : Nat)))] ∧ But p H H' ∧ PotOk H' p (B + 3 + 6 * i + 3) ∧
        ∃ val : Int, 0 ≤ val ∧ val ≤ 1000000000 ∧ PrsAt H' f (ps ++ [(key, val)]), ?_, ?_⟩
      · refine ⟨_, rfl, .inl ⟨rfl, _, SqL.of hx⟩, ?_⟩
        refine ⟨_, rfl, _, rfl, p, 5, _, rfl, by decide, by decide, hp2, by omega, fun H3 v1 b3 hp3 l1 u1 => ?_⟩
        refine ⟨_, rfl, _, _, rfl, rfl, powW_of (a := 4) (by decide) (by decide) (by decide) (by decide), _, _, rfl, rfl, p, _, _, rfl, by decide, by decide, hp3, by omega, fun H4 v2 b4 hp4 l2 u2 => ?_⟩
        refine ⟨by show 2 ≤ sizeLine; decide, fun q hq => ?_⟩
        have npq : p ≠ q := hp4.ne hq
        refine ⟨_, rfl, p, 4, _, rfl, by decide, by decide, hp4.new hq, by omega, fun H5 v3 b5 hp5 l3 u3 => ?_⟩
        refine ⟨rfl, .inr ⟨_, rfl, ?_⟩⟩
        have u2' : v2 < 1000000001 := u2
        obtain ⟨v, hq5, hv, hvv⟩ := pick2 (c := decide (V.int v3 = V.int 0)) (b5 _ _ npq.symm upd_same : H5 q = some (.lst [.int v1, .int v2]))
        refine ⟨q, _, _, _, rfl, rfl, SqL.of hq5, hv, by show 2 ≤ sizeLine; decide, fun t ht => ?_⟩
        have b23 : But p H2 H4 := b3.trans b4
        have b25 : But p H2 H5 := fun b o nb z => b5 b o nb (by
          have z4 := b23 b o nb z
          rw [upd_ne (ne_of_none z4 hq)]
          exact z4)
        have hx5 := b25 _ _ npf.symm hx
        have nft : f ≠ t := ne_of_none hx5 ht
        have nft' : ∀ uu, upd H5 t (.tup [.int key, .int v]) f = some uu → tpb uu = false := fun uu z => by
          rw [upd_ne nft, hx5] at z
          cases z
          rfl
        refine ⟨f, _, _, rfl, rfl, (by rw [upd_ne nft]; exact hx5), by rw [hxl]; exact Nat.lt_of_le_of_lt (by omega : i ≤ 40000) (by decide), ?_⟩
        have k6 : Keep H2 (upd (upd H5 t (.tup [.int key, .int v])) f (.lst (xs ++ [.ref t]))) := ((hp2.keep b25).trans (Keep.of (same_new ht))).trans ((Keep.refl _).upd nft')
        refine ⟨rfl, fun b o nb z => ?_, ?_, v, by omega, by omega, xs ++ [.ref t], upd_same, ?_⟩
        · have z5 := b25 b o nb (b2 b o nb z)
          rw [upd_ne (ne_of_none z hf), upd_ne (ne_of_none z5 ht)]
          exact z5
        · have h6 := hp5.new (o := .tup [.int key, .int v]) ht
          obtain ⟨x, y, c, h1, r⟩ := h6.le (by omega : _ ≤ B + 3 + 6 * i + 3)
          exact ⟨x, y, c, by rw [upd_ne npf]; exact h1, r⟩
        · refine paired_snoc ⟨t, rfl, by rw [upd_ne nft.symm, upd_same]⟩ (paired_imp (fun _ _ r => PrAt.keep k6 r) hpr)
      rintro σ' H3 ⟨rfl, b3, hp3, val, w0, w1, xs3, hx3, hpr3⟩
      -- key
      refine ⟨_, rfl, _, _, rfl, rfl, ?_⟩
      refine ⟨_, rfl, p, 3, _, rfl, by decide, by decide, hp3, by omega, fun H4 v1 b4 hp4 l1 u1 => ?_⟩
      refine ⟨_, rfl, p, 40, _, rfl, by decide, by decide, hp4, by omega, fun H5 v2 b5 hp5 l2 u2 => ?_⟩
      refine ⟨by show 2 ≤ sizeLine; decide, fun q hq => ?_⟩
      have npq : p ≠ q := hp5.ne hq
      refine ⟨_, rfl, p, 5, _, rfl, by decide, by decide, hp5.new hq, by omega, fun H6 v3 b6 hp6 l3 u3 => ?_⟩
      refine ⟨rfl, .inr ⟨_, rfl, ?_⟩⟩
      obtain ⟨v, hq6, hv, hvv⟩ := pick2 (c := decide (V.int v3 = V.int 0)) (b6 _ _ npq.symm upd_same : H6 q = some (.lst [.int v1, .int v2]))
      refine ⟨q, _, _, _, rfl, rfl, SqL.of hq6, hv, _, _, rfl, rfl, ?_⟩
      have b36 : But p H3 H6 := fun b o nb z => b6 b o nb (by
        have z4 := b5 b o nb (b4 b o nb z)
        rw [upd_ne (ne_of_none z4 hq)]
        exact z4)
      refine ⟨_, _, rfl, b3.trans b36, hp6.le (by omega), by omega, by omega, ps ++ [(key, val)], ⟨xs3, b36 _ _ npf.symm hx3, paired_imp (fun _ _ r => PrAt.keep (hp3.keep b36) r) hpr3⟩, by rw [List.length_append, hlen]; rfl, ⟨?_, fun z hz => ?_⟩, fun z hz => ?_⟩
      · refine List.pairwise_append.mpr ⟨hok.1, List.pairwise_singleton _ _, fun a ha b hb => ?_⟩
        obtain rfl := List.mem_singleton.mp hb
        exact hlt a ha
      · rcases List.mem_append.mp hz with hz | hz
        · exact hok.2 z hz
        · obtain rfl := List.mem_singleton.mp hz
          exact ⟨k0, by show key ≤ 1000000000; omega, w0, w1⟩
      · rcases List.mem_append.mp hz with hz | hz
        · have := hlt z hz
          omega
        · obtain rfl := List.mem_singleton.mp hz
          show key < key + 1 + v
          omega
    · rintro σ H2 ⟨key, v4, rfl, b2, hp2, k0, k1, ps, ⟨xs, hx, hpr⟩, hlen, hok, hlt⟩
      have hxl : xs.length = many := by rw [← hlen]; exact Paired.length hpr
      have fin : ∀ (H' : Hp) (ps' : List (Int × Int)), But p H H' → PotOk H' p (B + 3 + 6 * many + 1) → PrsAt H' f ps' → ps'.length = many → PrsOk ps' → PrsLow ps' → Q (.ref f) H' := fun H' ps' hb hpp ha hl ho hlow => kq H' f ps' hb (hpp.le (by omega)) hf ha hl ho hlow
      have low : PrsLow ps := fun j q hj _ => by
        have := hlt q (List.mem_of_getElem? hj)
        omega
      refine ⟨fun σ' H' => ∃ key v4, σ' = [some (.ref p), some (.int (many : Int)), some (.ref f), some (.int key), v4] ∧ ∃ ps', But p H H' ∧ PotOk H' p (B + 3 + 6 * many + 1) ∧ PrsAt H' f ps' ∧ ps'.length = many ∧ PrsOk ps' ∧ PrsLow ps', ?_, ?_⟩
      · refine ⟨_, rfl, _, _, rfl, rfl, _, rfl, ?_⟩
        refine ite2 (fun hc => ?_) (fun hc => ?_)
        · have hc' := of_decide_eq_true hc
          refine ⟨_, rfl, p, 9, _, rfl, by decide, by decide, hp2, by omega, fun H3 v b3 hp3 l3 u3 => ?_⟩
          refine ⟨rfl, _, rfl, ?_⟩
          have hx3 := b3 _ _ npf.symm hx
          have k3 := hp2.keep b3
          refine ite2 (fun hc2 => ?_) (fun hc2 => ?_)
          · -- the last one
            obtain ⟨c, hcm⟩ : ∃ c, many = c + 1 := ⟨many - 1, by omega⟩
            have hxc : xs[c]? = some (xs[c]'(by omega)) := List.getElem?_eq_getElem (by omega)
            obtain ⟨y, hy, t, et, ht⟩ := pget1 hpr hxc
            rw [et] at hxc
            have ht3 := k3 _ _ ht
            refine ⟨_, _, rfl, rfl, powW_of (a := 10) (by decide) (by decide) (by decide) (by decide), ?_⟩
            refine ⟨_, rfl, 1, rfl, f, _, _, _, rfl, rfl, SqL.of hx3, at_last (by omega : xs.length = c + 1) hxc, t, _, _, _, rfl, rfl, SqT.of ht3, rfl, by show 2 ≤ sizeLine; decide, fun u hu => ?_⟩
            have nfu : f ≠ u := ne_of_none hx3 hu
            have hxu : upd H3 u (.tup [.int (10 ^ 9), .int y.2]) f = some (.lst xs) := by rw [upd_ne nfu]; exact hx3
            have nft' : ∀ uu, upd H3 u (.tup [.int (10 ^ 9), .int y.2]) f = some uu → tpb uu = false := fun uu z => by
              rw [hxu] at z
              cases z
              rfl
            have ixl' : ixN xs.length (-1) = some c := by
              unfold ixN
              rw [if_neg (by decide), if_pos (by omega)]
              congr 1
              omega
            refine ⟨_, rfl, 1, rfl, f, _, _, c, rfl, rfl, hxu, ixl', ?_⟩
            have k6 : Keep H2 (upd (upd H3 u (.tup [.int (10 ^ 9), .int y.2])) f (.lst (xs.set c (.ref u)))) := (k3.trans (Keep.of (same_new hu))).trans ((Keep.refl _).upd nft')
            refine ⟨_, _, rfl, ps.set c (10 ^ 9, y.2), fun b o nb z => ?_, ?_, ⟨_, upd_same, ?_⟩, by rw [List.length_set]; exact hlen, ?_, fun j q hj hj2 => ?_⟩
            · have z3 := b3 b o nb (b2 b o nb z)
              rw [upd_ne (ne_of_none z hf), upd_ne (ne_of_none z3 hu)]
              exact z3
            · obtain ⟨x, y, c, h1, r⟩ := hp3
              exact ⟨x, y, c, by rw [upd_ne npf, upd_ne (ne_of_none h1 hu)]; exact h1, r⟩
            · exact paired_set (paired_imp (fun _ _ r => PrAt.keep k6 r) hpr) ⟨u, rfl, by rw [upd_ne nfu.symm, upd_same]; rfl⟩
            · have hb : ∀ q ∈ ps, q.1 < (10 : Int) ^ 9 := fun z hz => by
                have z1 := hlt z hz
                have z2 : (10 : Int) ^ 9 = 1000000000 := by decide
                rw [z2]
                omega
              exact prsOk_set hok (by omega) hy hb
            · rw [List.length_set] at hj2
              rw [List.getElem?_set_ne (by omega)] at hj
              exact low j q hj hj2
          · exact ⟨_, _, rfl, ps, b2.trans b3, hp3, ⟨xs, hx3, paired_imp (fun _ _ r => PrAt.keep k3 r) hpr⟩, hlen, hok, low⟩
        · exact ⟨_, _, rfl, ps, b2, hp2.le (by omega), ⟨xs, hx, hpr⟩, hlen, hok, low⟩
      · rintro σ' H3 ⟨key, v4, rfl, ps', b3, hp3, ha3, hl3, ho3, low3⟩
        exact ⟨_, rfl, fin H3 ps' b3 hp3 ha3 hl3 ho3 low3⟩
end
end K12

namespace K12
open PySem PySem.Spec PyProof.Rows L2 RZ HX TR
theorem cut_to {xs : List V} {n : Nat} (h : n ≤ xs.length) : cutV xs none (some (n : Int)) = xs.take n := by
  have e1 : HT.sIx xs.length 0 none = 0 := rfl
  have e2 : HT.sIx xs.length xs.length (some (n : Int)) = n := by rw [HT.sIx_nat]; omega
  unfold cutV
  rw [e1, e2]
  rfl
theorem cut_from {xs : List V} {n : Nat} (h : n ≤ xs.length) : cutV xs (some (n : Int)) none = xs.drop n := by
  have e1 : HT.sIx xs.length 0 (some (n : Int)) = n := by rw [HT.sIx_nat]; omega
  have e2 : HT.sIx xs.length xs.length none = xs.length := rfl
  unfold cutV
  rw [e1, e2, List.take_of_length_le (by rw [List.length_drop]; omega)]
theorem seq0 (n : Nat) : seqIndex? 0 (n + 1) = some 0 := by
  show (if (decide ((0 : Int) ≤ 0) && decide ((0 : Int) < ((n + 1 : Nat) : Int))) = true then some (0 : Int).toNat else none) = some 0
  rw [if_pos (by simp)]
  rfl
/-- a tuple just made, of which one knows that it has no dict -/
def FzT (H : Hp) (a : Addr) (xs : List V) : Prop := ∃ o : Obj, H a = some (.frz o (.tup xs)) ∧ o.dict = none
theorem FzT.keep {H H' : Hp} (k : Keep H H') {a : Addr} {xs : List V} (h : FzT H a xs) : FzT H' a xs := by
  obtain ⟨o, h1, h2⟩ := h
  exact ⟨o, k.frz h1, h2⟩
theorem FzT.same {H H' : Hp} (k : Same H H') {a : Addr} {xs : List V} (h : FzT H a xs) : FzT H' a xs := h.keep (Keep.of k)
theorem FzT.sq {K : PySem.W.Frag} {H : Hp} {a : Addr} {xs : List V} (h : FzT H a xs) : SqT K H a xs := by
  obtain ⟨o, h1, _⟩ := h
  exact .inl (.inr ⟨o, h1⟩)
theorem FzT.ty {K : PySem.W.Frag} {H : Hp} {a : Addr} {xs : List V} (h : FzT H a xs) : TyX K H (.ref a) (.type "tuple") := by
  obtain ⟨o, h1, _⟩ := h
  exact .fTuple h1
def PrT (H : Hp) (a : Addr) (ps : List (Int × Int)) : Prop := ∃ xs : List V, FzT H a xs ∧ Paired (PrAt H) xs ps
theorem PrT.keep {H H' : Hp} (k : Keep H H') {a : Addr} {ps : List (Int × Int)} (h : PrT H a ps) : PrT H' a ps := by
  obtain ⟨xs, h1, h2⟩ := h
  exact ⟨xs, h1.keep k, paired_imp (fun _ _ r => PrAt.keep k r) h2⟩
def PgAt (H : Hp) (v : V) : Pg → Prop
  | .leaf ps nx => ∃ t q, v = .ref t ∧ H t = some (.tup [.str "leaf", .ref q, .int nx]) ∧ PrT H q ps
  | .node ks kids => ∃ t q1 q2, v = .ref t ∧ H t = some (.tup [.str "node", .ref q1, .ref q2]) ∧ H q1 = some (.tup (ks.map V.int)) ∧ FzT H q2 (kids.map V.int)
theorem PgAt.keep {H H' : Hp} (k : Keep H H') {v : V} : ∀ {g : Pg}, PgAt H v g → PgAt H' v g
  | .leaf _ _, ⟨t, q, e, h1, h2⟩ => ⟨t, q, e, k _ _ h1, h2.keep k⟩
  | .node _ _, ⟨t, q1, q2, e, h1, h2, h3⟩ => ⟨t, q1, q2, e, k _ _ h1, k _ _ h2, h3.keep k⟩
def EnAt (H : Hp) (e : Key × V) (q : Int × Pg) : Prop := e.1 = .inl q.1 ∧ PgAt H e.2 q.2
def DctAt (H : Hp) (d : Addr) (D : List (Int × Pg)) : Prop := ∃ es : List (Key × V), H d = some (.dK es) ∧ Paired (EnAt H) es D
theorem valV_of {H : Hp} {k : Int} : ∀ {es : List (Key × V)} {D : List (Int × Pg)}, Paired (EnAt H) es D → (lkp D k = none ∧ valV es (.inl k) = none) ∨ ∃ g v, lkp D k = some g ∧ valV es (.inl k) = some v ∧ PgAt H v g
  | _, _, .nil => .inl ⟨rfl, rfl⟩
  | e :: es, q :: D, .cons r rs => by
    obtain ⟨r1, r2⟩ := r
    by_cases c : q.1 = k
    · refine .inr ⟨q.2, e.2, ?_, ?_, r2⟩
      · unfold lkp
        rw [List.find?_cons_of_pos (by exact decide_eq_true c)]
        rfl
      · unfold valV
        rw [List.find?_cons_of_pos (by rw [r1, c]; exact decide_eq_true rfl)]
        rfl
    · have c1 : lkp (q :: D) k = lkp D k := by
        unfold lkp
        rw [List.find?_cons_of_neg (by simpa using c)]
      have c2 : valV (e :: es) (.inl k) = valV es (.inl k) := by
        unfold valV
        rw [List.find?_cons_of_neg (by rw [r1]; simpa using c)]
      rw [c1, c2]
      exact valV_of rs
theorem DctAt.put {H : Hp} {es : List (Key × V)} {D : List (Int × Pg)} {k : Int} {v : V} {g : Pg} (h : Paired (EnAt H) es D) (hn : lkp D k = none) (hv : PgAt H v g) : Paired (EnAt H) (putK es (.inl k) v) (D ++ [(k, g)]) := by
  have e : putK es (.inl k) v = es ++ [(.inl k, v)] := by
    unfold putK
    rw [if_neg]
    intro z
    obtain ⟨x, hx, hx2⟩ := List.any_eq_true.mp z
    obtain ⟨i, hi⟩ := List.getElem?_of_mem hx
    obtain ⟨q, hq, r1, _⟩ := pget1 h hi
    have hx3 := of_decide_eq_true hx2
    rw [r1] at hx3
    exact lkp_ne hn q (List.mem_of_getElem? hq) (by injection hx3)
  rw [e]
  exact paired_snoc ⟨rfl, hv⟩ h
theorem pr_ne {H : Hp} {a q : Addr} {xs : List V} {ps : List (Int × Int)} {is : List Int} (h : H a = some (.lst xs)) (hp : Paired (PrAt H) xs ps) (hq : H q = some (.lst (is.map V.int))) (ne : ps ≠ [] ∨ is ≠ []) : a ≠ q := fun e => by
  rw [e, hq] at h
  have e2 : xs = is.map V.int := by injection h with h; injection h with h; exact h.symm
  subst e2
  cases is with
  | nil =>
    cases hp
    rcases ne with ne | ne <;> exact ne rfl
  | cons i is =>
    cases hp with
    | cons r rs =>
      obtain ⟨t, e, _⟩ := r
      cases e
/-- all but four stay -/
def But4 (p r n d : Addr) (H H' : Hp) : Prop := ∀ b o, b ≠ p → b ≠ r → b ≠ n → b ≠ d → H b = some o → H' b = some o
theorem But4.refl (p r n d : Addr) (H : Hp) : But4 p r n d H H := fun _ _ _ _ _ _ e => e
theorem But4.trans {p r n d : Addr} {H H1 H2 : Hp} (a : But4 p r n d H H1) (b : But4 p r n d H1 H2) : But4 p r n d H H2 := fun c o h1 h2 h3 h4 e => b c o h1 h2 h3 h4 (a c o h1 h2 h3 h4 e)
theorem But4.same {p r n d : Addr} {H H1 H2 : Hp} (a : But4 p r n d H H1) (b : Same H1 H2) : But4 p r n d H H2 := fun c o h1 h2 h3 h4 e => b c o (a c o h1 h2 h3 h4 e)
theorem But4.new {p r n d q : Addr} {H H1 : Hp} {o : HO} (a : But4 p r n d H H1) (h : H1 q = none) : But4 p r n d H (upd H1 q o) := a.same (same_new h)
theorem But4.put {p r n d q : Addr} {H H1 : Hp} {o : HO} (a : But4 p r n d H H1) (h : q = p ∨ q = r ∨ q = n ∨ q = d) : But4 p r n d H (upd H1 q o) := fun c o h1 h2 h3 h4 e => by
  rw [upd_ne (by rintro rfl; rcases h with h | h | h | h <;> contradiction)]
  exact a c o h1 h2 h3 h4 e
theorem PotOk.put {H : Hp} {p q : Addr} {B : Int} {o : HO} (h : PotOk H p B) (e : p ≠ q) : PotOk (upd H q o) p B := by
  obtain ⟨x, y, c, h1, r⟩ := h
  exact ⟨x, y, c, by rw [upd_ne e]; exact h1, r⟩
theorem four {H : Hp} {p r n d q : Addr} {B : Int} {u : HO} {v w : HO} (hp : PotOk H p B) (h1 : H r = some u) (h2 : H n = some v) (h3 : H d = some w) (hq : H q = none) : q ≠ p ∧ q ≠ r ∧ q ≠ n ∧ q ≠ d := by
  obtain ⟨x, y, c, h0, _⟩ := hp
  exact ⟨(ne_of_none h0 hq).symm, (ne_of_none h1 hq).symm, (ne_of_none h2 hq).symm, (ne_of_none h3 hq).symm⟩
structure Dif (p r n d : Addr) : Prop where
  pr : p ≠ r
  pn : p ≠ n
  pd : p ≠ d
  rn : r ≠ n
  rd : r ≠ d
  nd : n ≠ d
/-- what is left: pairs, numbers, the last key -/
def RestAt (H : Hp) (p r n d : Addr) (ps : List (Int × Int)) (ns : List Int) (last : Int) : Prop :=
  ∃ a, H r = some (.lst [.ref a, .ref n, .int last]) ∧ PrsAt H a ps ∧ H n = some (.lst (ns.map V.int)) ∧ a ≠ p ∧ a ≠ r ∧ a ≠ n ∧ a ≠ d
/-- tuples stay where only these four change, none of which is one -/
theorem But4.keep {p r n d : Addr} {H H' : Hp} {B : Int} {ps : List (Int × Int)} {ns : List Int} {last : Int} {D : List (Int × Pg)} (b : But4 p r n d H H') (hp : PotOk H p B) (hr : RestAt H p r n d ps ns last) (hd : DctAt H d D) : Keep H H' := ⟨fun c u tu h => by
  obtain ⟨a, h1, _, h2, _⟩ := hr
  obtain ⟨es, h3, _⟩ := hd
  refine b c _ (tpb_no hp.noTup tu h) (fun z => ?_) (fun z => ?_) (fun z => ?_) h <;> subst z
  · rw [h1] at h; cases h; cases tu
  · rw [h2] at h; cases h; cases tu
  · rw [h3] at h; cases h; cases tu⟩
section
variable {P : Program} {w : World} {K : PySem.W.Frag} {mg : Str → Option Value} {base : Heap}
structure LaidIn (H : Hp) (l room : Nat) (s : Sh l) (p r n d : Addr) (ps : List (Int × Int)) (ns : List Int) (D : List (Int × Pg)) (last B : Int) : Prop where
  r3 : 3 ≤ room
  r8 : room ≤ 8
  pot : PotOk H p B
  bound : B + (pgsS l s : Int) < 2 ^ 39
  rest : RestAt H p r n d ps ns last
  dct : DctAt H d D
  dif : Dif p r n d
  ok : PrsOk ps
  above : Above ps last
  last0 : -1 ≤ last
  last9 : last ≤ 1000000000
  many : cntS l s ≤ ps.length
  numbers : pgsS l s ≤ ns.length
  nodup : ns.Nodup
  fresh : ∀ k ∈ ns, lkp D k = none
  few : ps.length ≤ 100000
  few2 : D.length + ns.length ≤ 100000
def sp_law_laid (N : Nat) : Sp := fun vs H Q _ => ∃ (l room : Nat) (top : Bool) (v : V) (s : Sh l) (p r n d : Addr) (ps : List (Int × Int)) (ns : List Int) (D : List (Int × Pg)) (last B : Int), vs = [.ref p, v, .ref r, .ref d] ∧ l < N ∧ WfSh room l top s ∧ ShAt H l v s ∧
  LaidIn H l room s p r n d ps ns D last B ∧
  ∀ (H' : Hp) (t : Tr l) (D' : List (Int × Pg)) (last' : Int), But4 p r n d H H' → PotOk H' p (B + (pgsS l s : Int) - 1) → RestAt H' p r n d (ps.drop (cntS l s)) (ns.drop (pgsS l s)) last' → DctAt H' d (D ++ D') → Gen l s t ps ns D D' last last' → Q (.int (num l t)) H'
theorem ok_law_laid (T : TX K mg) : ∀ N : Nat, FnOk P w K mg base CX0 (N + 2) (He.ga K "_law_laid") T.fd_law_laid ["pot", "shape", "rest", "pages"] (sp_law_laid N) := by
  intro N
  induction N with
  | zero =>
    refine T.F_law_laid.ok sc_law_laid (fun vs H Q E h => ?_) (fun cdv A outer st H vs Q E hr h => ?_)
    · obtain ⟨l, room, top, v, s, p, r, n, d, ps, ns, D, last, B, rfl, _⟩ := h
      rfl
    · obtain ⟨l, room, top, v, s, p, r, n, d, ps, ns, D, last, B, rfl, h1, _⟩ := h
      omega
  | succ N ih =>
    have G_law_laid := ih
    have b_law_laid := b_law_laid T
    have G_law_take : FnOk P w K mg base CX0 1 (He.ga K "_law_take") T.fd_law_take ["pot", "many"] sp_law_take := ok_law_take T
    have b_law_take := b_law_take T
    refine T.F_law_laid.ok sc_law_laid (fun vs H Q E h => ?_) (fun cdv A outer st H vs Q E hr h => ?_)
    · obtain ⟨l, room, top, v, s, p, r, n, d, ps, ns, D, last, B, rfl, _⟩ := h
      rfl
    · obtain ⟨l, room, top, v, s, p, r, n, d, ps, ns, D, last, B, rfl, hl, hwf, hs, I, kq⟩ := h
      refine ⟨_, PSs.nox (pss_cons (ps_set (i := 4) sc_law_laid.nd rfl (Or.inl rfl) (pe_bm PySem.F.plainAttrs_list PySem.F.slot_list_pop PySem.F.type_list_pop mt_popAt (pe_ix ix_list (pv 2) pe_int (fun _ _ => rfl)) (pa_cons pe_int pa_nil)))
 (pss_cons (ps_if (pt_val (pe_callB call_isi rfl T.n_isinstance (by decide +kernel) (pa_cons (pv 1) (pa_cons (pe_ty "int" T.n_int (by decide +kernel)) pa_nil))))
 (pss_cons (ps_set (i := 5) sc_law_laid.nd rfl (Or.inl rfl) (pe_slice sl_list (pe_ix ix_list (pv 2) pe_int (fun _ _ => rfl)) po_none (po_some (pv 1))))
 (pss_cons (ps_asg (pe_slice sl_list (pe_ix ix_list (pv 2) pe_int (fun _ _ => rfl)) (po_some (pv 1)) po_none) (pg_sub (pv 2) pe_int set_list))
 (pss_cons (ps_dput (hu_of hr) (pv 3) (pv 4) (pe_tup (pa_cons pe_str (pa_cons (pe_callTy RU.call_tupF rfl T.n_tuple (by decide +kernel) (pa_cons (pv 5) pa_nil)) (pa_cons pe_int pa_nil)))) rfl)
 (pss_cons (ps_asg (pe_ix ix_list (pe_op op_cat (pe_lst (pa_cons (pe_ix ix_list (pv 2) pe_int (fun _ _ => rfl)) pa_nil)) (pe_lc (own := [("pair", 9)]) (g := gName 9) (tt := tYes) rfl sc_law_laid.nd (pi_list (pv 5)) (blkOk_by (own := [("pair", 9)]) (N := ["pot", "shape", "rest", "pages", "number", "pairs", "kids", "keys", "kid", "pair"]) (sc := defScope s_law_laid) (by decide +kernel)) (fun _ _ _ _ _ => (pg_name (i := 9) sc_law_laid.nd rfl (Or.inl rfl))) (fun _ _ _ _ _ => pts_nil) (fun _ _ _ _ _ => (pe_ix (ixt K) (pv 9) pe_int (fun _ _ => rfl))))) (pe_un un_neg pe_int) (fun _ _ => rfl)) (pg_sub (pv 2) pe_int set_list))
 (pss_one (ps_ret (pv 4)))))))
 pss_nil)
 (pss_cons (ps_set (i := 6) sc_law_laid.nd rfl (Or.inl rfl) (pe_lst pa_nil))
 (pss_cons (ps_set (i := 7) sc_law_laid.nd rfl (Or.inl rfl) (pe_lst pa_nil))
 (pss_cons (ps_for PassesOwn.never rfl (pi_tup (pv 1)) (pg_name (i := 8) sc_law_laid.nd rfl (Or.inl rfl))
 (Evl.pss_cut (ps_if (pt_cmpR (op_neD hr.units) (pv 6) (pe_lst pa_nil) (nomark _))
 (pss_one (ps_expr (pe_bm PySem.F.plainAttrs_list PySem.F.slot_list_append PySem.F.type_list_append mt_append (pv 7) (pa_cons (pe_op op_add (pe_op op_add (pe_ix ix_list (pv 2) pe_int (fun _ _ => rfl)) pe_int) (pe_call G_law_take (hr.mono (by first | decide | omega)) rfl T.g_law_take T.F_law_take.kp b_law_take .nil pass0 (pa_cons (pv 0) (pa_cons (pe_op op_sub (pe_ix ix_tup (pe_ix ix_list (pe_ix ix_list (pv 2) pe_int (fun _ _ => rfl)) pe_int (fun _ _ => rfl)) pe_int (fun _ _ => rfl)) (pe_ix ix_list (pv 2) pe_int (fun _ _ => rfl))) pa_nil)))) pa_nil))))
 pss_nil)
 (pss_one (ps_expr (pe_bm PySem.F.plainAttrs_list PySem.F.slot_list_append PySem.F.type_list_append mt_append (pv 6) (pa_cons (pe_call G_law_laid (hr.mono (by first | decide | omega)) rfl T.g_law_laid T.F_law_laid.kp b_law_laid .nil pass0 (pa_cons (pv 0) (pa_cons (pv 8) (pa_cons (pv 2) (pa_cons (pv 3) pa_nil))))) pa_nil))))))
 (pss_cons (ps_dput (hu_of hr) (pv 3) (pv 4) (pe_tup (pa_cons pe_str (pa_cons (pe_callTy call_tuple_of rfl T.n_tuple (by decide +kernel) (pa_cons (pv 7) pa_nil)) (pa_cons (pe_callTy RU.call_tupF rfl T.n_tuple (by decide +kernel) (pa_cons (pv 6) pa_nil)) pa_nil)))) rfl)
 (pss_one (ps_ret (pv 4))))))))), ?_⟩
      obtain ⟨a, hr0, ⟨xs, hx, hpx⟩, hn0, nap, nar, nan, nad⟩ := I.rest
      obtain ⟨es, hd0, hde⟩ := I.dct
      obtain ⟨z, ns1, hns⟩ : ∃ z ns1, ns = z :: ns1 := by
        have h1 := I.numbers
        have h2 : 1 ≤ pgsS l s := by cases l <;> (unfold pgsS; omega)
        cases ns with
        | nil => simp only [List.length_nil] at h1; omega
        | cons z ns1 => exact ⟨z, ns1, rfl⟩
      subst hns
      refine ⟨_, rfl, r, _, _, _, rfl, rfl, SqL.of hr0, rfl, ?_⟩
      refine ⟨.inl ⟨rfl, _, SqL.of hn0⟩, n, _, 0, 0, V.int z, rfl, rfl, hn0, by decide, by decide, seq0 _, rfl, ?_⟩
      have npr := I.dif.pr
      have npn := I.dif.pn
      have npd := I.dif.pd
      have nrn := I.dif.rn
      have nrd := I.dif.rd
      have nnd := I.dif.nd
      have hn1 : upd H n (.lst (List.eraseIdx ((z :: ns1).map V.int) 0)) n = some (.lst (ns1.map V.int)) := upd_same
      have b1 : But4 p r n d H (upd H n (.lst (List.eraseIdx ((z :: ns1).map V.int) 0))) := (But4.refl p r n d H).put (.inr (.inr (.inl rfl)))
      have hr1 : upd H n (.lst (List.eraseIdx ((z :: ns1).map V.int) 0)) r = some (.lst [.ref a, .ref n, .int last]) := by rw [upd_ne nrn]; exact hr0
      have hx1 : upd H n (.lst (List.eraseIdx ((z :: ns1).map V.int) 0)) a = some (.lst xs) := by rw [upd_ne nan]; exact hx
      have hd1 : upd H n (.lst (List.eraseIdx ((z :: ns1).map V.int) 0)) d = some (.dK es) := by rw [upd_ne nnd.symm]; exact hd0
      have hp1 : PotOk (upd H n (.lst (List.eraseIdx ((z :: ns1).map V.int) 0))) p B := I.pot.put npn
      generalize upd H n (.lst (List.eraseIdx ((z :: ns1).map V.int) 0)) = H1 at hn1 b1 hr1 hx1 hd1 hp1
      have k1 : Keep H H1 := b1.keep I.pot I.rest I.dct
      have hxl : xs.length = ps.length := Paired.length hpx
      have hpx1 := paired_imp (fun _ _ r => PrAt.keep k1 r) hpx
      have hde1 := paired_imp (fun _ _ (r : EnAt H _ _) => (⟨r.1, r.2.keep k1⟩ : EnAt H1 _ _)) hde
      cases l with
      | zero =>
        obtain rfl : v = .int (s.n : Int) := hs
        have hc : s.n ≤ ps.length := I.many
        refine ⟨_, rfl, _, _, .type "int", .type "int", true, rfl, .ty "int", .base (.int _), kit_ty (by decide +kernel), true, rfl, ?_⟩
        refine iteT ?_
        refine ⟨_, rfl, r, _, _, _, rfl, rfl, SqL.of hr1, rfl, _, rfl, _, rfl, a, _, rfl, SqL.of hx1, fun q1 hq1 => ?_⟩
        rw [cut_to (by omega)]
        have nq {q : Addr} {H' : Hp} {b : Addr} {o : HO} (e : H' b = some o) (h : H' q = none) : b ≠ q := ne_of_none e h
        have s2 : Same H1 (upd H1 q1 (.lst (xs.take s.n))) := same_new hq1
        have hq1' : upd H1 q1 (.lst (xs.take s.n)) q1 = some (.lst (xs.take s.n)) := upd_same
        generalize upd H1 q1 (.lst (xs.take s.n)) = H2 at s2 hq1'
        have nq1 := four hp1 hr1 hn1 hd1 hq1
        refine ⟨_, rfl, r, _, _, _, rfl, rfl, SqL.of (s2 _ _ hr1), rfl, _, rfl, _, rfl, a, _, rfl, SqL.of (s2 _ _ hx1), fun q2 hq2 => ?_⟩
        rw [cut_from (by omega)]
        have nq2 := four (hp1.same s2) (s2 _ _ hr1) (s2 _ _ hn1) (s2 _ _ hd1) hq2
        have s3 : Same H2 (upd H2 q2 (.lst (xs.drop s.n))) := same_new hq2
        have hq2' : upd H2 q2 (.lst (xs.drop s.n)) q2 = some (.lst (xs.drop s.n)) := upd_same
        generalize upd H2 q2 (.lst (xs.drop s.n)) = H3 at s3 hq2'
        have hr3 := s3 _ _ (s2 _ _ hr1)
        refine ⟨_, rfl, r, _, _, 0, rfl, rfl, hr3, rfl, ?_⟩
        have s23 := s2.trans s3
        have b4 : But4 p r n d H (upd H3 r (.lst ([V.ref a, .ref n, .int last].set 0 (.ref q2)))) := (b1.same s23).put (.inr (.inl rfl))
        have hr4 : upd H3 r (.lst ([V.ref a, .ref n, .int last].set 0 (.ref q2))) r = some (.lst [.ref q2, .ref n, .int last]) := upd_same
        have hd4 : upd H3 r (.lst ([V.ref a, .ref n, .int last].set 0 (.ref q2))) d = some (.dK es) := by rw [upd_ne nrd.symm]; exact s23 _ _ hd1
        have hn4 : upd H3 r (.lst ([V.ref a, .ref n, .int last].set 0 (.ref q2))) n = some (.lst (ns1.map V.int)) := by rw [upd_ne nrn.symm]; exact s23 _ _ hn1
        have hq14 : upd H3 r (.lst ([V.ref a, .ref n, .int last].set 0 (.ref q2))) q1 = some (.lst (xs.take s.n)) := by rw [upd_ne nq1.2.1]; exact s3 _ _ hq1'
        have hq24 : upd H3 r (.lst ([V.ref a, .ref n, .int last].set 0 (.ref q2))) q2 = some (.lst (xs.drop s.n)) := by rw [upd_ne nq2.2.1]; exact hq2'
        have hp4 : PotOk (upd H3 r (.lst ([V.ref a, .ref n, .int last].set 0 (.ref q2)))) p B := (hp1.same s23).put npr
        generalize upd H3 r (.lst ([V.ref a, .ref n, .int last].set 0 (.ref q2))) = H4 at b4 hr4 hd4 hn4 hq14 hq24 hp4
        -- the page
        refine ⟨_, rfl, q1, _, rfl, SqL.of hq14, fun q3 o3 hq3 ho3 => ⟨by show 3 ≤ sizeLine; decide, fun t ht => ?_⟩⟩
        have nq3 := four hp4 hr4 hn4 hd4 hq3
        have s5 : Same H4 (upd (upd H4 q3 (.frz o3 (.tup (xs.take s.n)))) t (.tup [.str "leaf", .ref q3, .int 0])) := (same_new hq3).trans (same_new ht)
        have ht5 : upd (upd H4 q3 (.frz o3 (.tup (xs.take s.n)))) t (.tup [.str "leaf", .ref q3, .int 0]) t = some (.tup [.str "leaf", .ref q3, .int 0]) := upd_same
        have hq35 : upd (upd H4 q3 (.frz o3 (.tup (xs.take s.n)))) t (.tup [.str "leaf", .ref q3, .int 0]) q3 = some (.frz o3 (.tup (xs.take s.n))) := by
          rw [upd_ne (ne_of_none (upd_same : upd H4 q3 (.frz o3 (.tup (xs.take s.n))) q3 = _) ht)]
          exact upd_same
        generalize upd (upd H4 q3 (.frz o3 (.tup (xs.take s.n)))) t (.tup [.str "leaf", .ref q3, .int 0]) = H5 at s5 ht5 hq35
        have hdn : D.length = es.length := (Paired.length hde).symm
        refine ⟨_, rfl, _, rfl, d, _, rfl, DPut.k (k := .inl z) (s5 _ _ hd4) ?_, ?_⟩
        · have := I.few2
          exact Nat.lt_of_le_of_lt (by omega : es.length ≤ 100000) (by decide)
        have hp5 := hp4.same s5
        have b6 : But4 p r n d H (upd H5 d (.dK (putK es (.inl z) (.ref t)))) := (b4.same s5).put (.inr (.inr (.inr rfl)))
        have k6 : Keep H (upd H5 d (.dK (putK es (.inl z) (.ref t)))) := b6.keep I.pot I.rest I.dct
        have ntd : t ≠ d := fun e => by rw [e, s5 _ _ hd4] at ht5; cases ht5
        have nq3d : q3 ≠ d := nq3.2.2.2
        have hd6 : upd H5 d (.dK (putK es (.inl z) (.ref t))) d = some (.dK (putK es (.inl z) (.ref t))) := upd_same
        have ht6 : upd H5 d (.dK (putK es (.inl z) (.ref t))) t = some (.tup [.str "leaf", .ref q3, .int 0]) := by rw [upd_ne ntd]; exact ht5
        have hq36 : upd H5 d (.dK (putK es (.inl z) (.ref t))) q3 = some (.frz o3 (.tup (xs.take s.n))) := by rw [upd_ne nq3d]; exact hq35
        have hr6 : upd H5 d (.dK (putK es (.inl z) (.ref t))) r = some (.lst [.ref q2, .ref n, .int last]) := by rw [upd_ne nrd]; exact s5 _ _ hr4
        have hn6 : upd H5 d (.dK (putK es (.inl z) (.ref t))) n = some (.lst (ns1.map V.int)) := by rw [upd_ne nnd]; exact s5 _ _ hn4
        have hq16 : upd H5 d (.dK (putK es (.inl z) (.ref t))) q1 = some (.lst (xs.take s.n)) := by rw [upd_ne nq1.2.2.2]; exact s5 _ _ hq14
        have hq26 : upd H5 d (.dK (putK es (.inl z) (.ref t))) q2 = some (.lst (xs.drop s.n)) := by rw [upd_ne nq2.2.2.2]; exact s5 _ _ hq24
        have hp6 : PotOk (upd H5 d (.dK (putK es (.inl z) (.ref t)))) p B := hp5.put npd
        generalize upd H5 d (.dK (putK es (.inl z) (.ref t))) = H6 at b6 k6 hd6 ht6 hq36 hr6 hn6 hq16 hq26 hp6
        -- the last key
        refine ⟨_, rfl, r, _, _, _, rfl, rfl, SqL.of hr6, rfl, by show 1 ≤ sizeLine; decide, fun q4 hq4 => ?_⟩
        refine ⟨_, rfl, q1, rfl, ⟨_, SqL.of (same_new hq4 _ _ hq16)⟩, fun G hG => ?_⟩
        have hpx6 := paired_imp (fun _ _ r => PrAt.keep k6 r) hpx
        refine lc_it walk_list (fun i H' => Same (upd H6 q4 (.lst [.int last])) H' ∧ H' G = some (.lst (((ps.take s.n).take i).map fun q => V.int q.1))) ⟨same_new hG, upd_same⟩ (fun i H' _ z => SqL.of (z.1 _ _ (same_new hq4 _ _ hq16))) ?_ ?_
        · rintro i x H7 H8 hi ⟨s7, hG7⟩ ⟨rfl, hx7⟩
          obtain ⟨y, hy, t1, rfl, ht1⟩ := pget1 (paired_take s.n hpx6) hx7
          have ht1' := s7 _ _ (same_new hq4 _ _ ht1)
          refine ⟨rfl, ?_⟩
          dsimp only [tYes]
          rw [if_pos rfl]
          refine ⟨_, rfl, t1, _, _, _, rfl, rfl, SqT.of ht1', rfl, _, hG7, ?_, same_upd s7 hG, ?_⟩
          · rw [List.length_map, List.length_take, List.length_take]
            have := I.few
            exact Nat.lt_of_le_of_lt (by omega : _ ≤ 100000) (by decide)
          · rw [upd_same, take_more hy, List.map_append]
            rfl
        · rintro H7 ⟨s7, hG7⟩
          have hlt : (xs.take s.n).length = s.n := by rw [List.length_take]; omega
          rw [hlt, List.take_take, Nat.min_self] at hG7
          obtain ⟨z', hz1, hz2, hz3, hz4⟩ := last_pick last (ps.take s.n) (I.ok.1.sublist (List.take_sublist _ _)) (fun q hq => I.above q (List.mem_of_mem_take hq))
          refine ⟨q4, G, _, _, rfl, rfl, s7 _ _ upd_same, hG7, ?_, fun q5 hq5 => ?_⟩
          · rw [List.length_map, List.length_take]
            have := I.few
            exact Nat.le_trans (by show 1 + _ ≤ 100001; omega) (by decide)
          refine ⟨1, rfl, q5, _, _, _, rfl, rfl, SqL.of upd_same, hz1, ?_⟩
          have s67 : Same H6 (upd H7 q5 (.lst ([V.int last] ++ (ps.take s.n).map fun q => V.int q.1))) := ((same_new hq4).trans s7).trans (same_new hq5)
          generalize upd H7 q5 (.lst ([V.int last] ++ (ps.take s.n).map fun q => V.int q.1)) = H8 at s67
          refine ⟨_, rfl, r, _, _, 2, rfl, rfl, s67 _ _ hr6, rfl, ?_⟩
          have b9 : But4 p r n d H (upd H8 r (.lst ([V.ref q2, .ref n, .int last].set 2 (.int z')))) := (b6.same s67).put (.inr (.inl rfl))
          have k9 := b9.keep I.pot I.rest I.dct
          have k69 : Keep H6 (upd H8 r (.lst ([V.ref q2, .ref n, .int last].set 2 (.int z')))) := (Keep.of s67).trans ((Keep.refl H8).upd fun ys e => by rw [s67 _ _ hr6] at e; cases e; rfl)
          have below : Below (ps.take s.n) z' := hz2
          have above : Above (ps.drop s.n) z' := fun q hq => by
            have hpw := I.ok.1
            rw [← List.take_append_drop s.n ps] at hpw
            have hx := (List.pairwise_append.mp hpw).2.2
            rcases hz4 with e | ⟨y, hy, e⟩
            · rw [e]
              exact I.above q (List.mem_of_mem_drop hq)
            · rw [e]
              exact hx y hy q hq
          refine ⟨_, rfl, kq _ (lfT z (ps.take s.n)) [(z, .leaf (ps.take s.n) 0)] z' b9 ?_ ?_ ?_ ?_⟩
          · refine ((hp6.same s67).put npr).le ?_
            show B ≤ B + ((1 : Nat) : Int) - 1
            omega
          · refine ⟨q2, upd_same, ⟨xs.drop s.n, ?_, ?_⟩, ?_, nq2⟩
            · rw [upd_ne nq2.2.1]
              exact s67 _ _ hq26
            · exact paired_drop s.n (paired_imp (fun _ _ r => PrAt.keep k9 r) hpx)
            · rw [upd_ne nrn.symm]
              exact s67 _ _ hn6
          · refine ⟨_, by rw [upd_ne nrd.symm]; exact s67 _ _ hd6, ?_⟩
            refine DctAt.put (paired_imp (fun _ _ (r : EnAt H _ _) => (⟨r.1, r.2.keep k9⟩ : EnAt _ _ _)) hde) (I.fresh z (List.mem_cons_self ..)) ?_
            exact ⟨t, q3, rfl, k69 _ _ ht6, _, ⟨o3, k69.frz hq36, ho3⟩, paired_take s.n (paired_imp (fun _ _ r => PrAt.keep k9 r) hpx)⟩
          · refine ⟨?_, rfl, rfl, List.Perm.refl _, ⟨0, ?_⟩, fun lo hi h => h, trivial, below, above, hz3, ?_⟩
            · show (ps.take s.n).length = s.n
              rw [List.length_take]
              omega
            · exact lkp_end (I.fresh z (List.mem_cons_self ..))
            · rcases hz4 with e | ⟨y, hy, e⟩
              · rw [e]
                exact I.last9
              · rw [e]
                exact (I.ok.2 y (List.mem_of_mem_take hy)).2.1
      | succ l =>
        obtain ⟨sa, sxs, rfl, hsa, hsp⟩ := hs
        have hsl : sxs.length = s.ks.length := Paired.length hsp
        have hsa1 := k1 _ _ hsa
        refine ⟨_, rfl, _, _, .type "tuple", .type "int", false, rfl, .ty "int", .base (.tup hsa1), kit_ty (by decide +kernel), false, rfl, ?_⟩
        refine iteF ?_
        refine ⟨Nat.zero_le _, fun qk hqk => ⟨Nat.zero_le _, fun qy hqy => ?_⟩⟩
        have nqk := four hp1 hr1 hn1 hd1 hqk
        have nqy := four (hp1.same (same_new hqk)) (same_new hqk _ _ hr1) (same_new hqk _ _ hn1) (same_new hqk _ _ hd1) hqy
        have nky : qk ≠ qy := ne_of_none (upd_same : upd H1 qk (.lst []) qk = _) hqy
        have s2 : Same H1 (upd (upd H1 qk (.lst [])) qy (.lst [])) := (same_new hqk).trans (same_new hqy)
        have hk2 : upd (upd H1 qk (.lst [])) qy (.lst []) qk = some (.lst []) := by rw [upd_ne nky]; exact upd_same
        have hy2 : upd (upd H1 qk (.lst [])) qy (.lst []) qy = some (.lst []) := upd_same
        generalize upd (upd H1 qk (.lst [])) qy (.lst []) = H2 at s2 hk2 hy2
        have room3 := I.r3
        have room8 := I.r8
        have nd := I.nodup
        have hzn : z ∉ ns1 := (List.nodup_cons.mp nd).1
        have nd1 : ns1.Nodup := (List.nodup_cons.mp nd).2
        have few2 := I.few2
        have few := I.few
        rw [List.length_cons] at few2
        have kle : s.ks.length ≤ room := hwf.2.1
        have khalf : 2 ≤ s.ks.length := by
          have h1 := hwf.1
          unfold loS at h1
          split at h1
          · rw [if_neg (by omega)] at h1
            exact h1
          · omega
        have hC : cntS (l + 1) s = (s.ks.map (cntS l)).sum := rfl
        have hP : pgsS (l + 1) s = 1 + (s.ks.map (pgsS l)).sum := rfl
        have hCn : (s.ks.map (cntS l)).sum ≤ ps.length := I.many
        have hPn : (s.ks.map (pgsS l)).sum ≤ ns1.length := by
          have := I.numbers
          rw [List.length_cons] at this
          omega
        have bnd := I.bound
        refine ⟨_, rfl, sa, rfl, ⟨sxs, SqT.of (s2 _ _ hsa1)⟩, ?_⟩
        refine for_tup (xs := sxs) (fun i σ H' => ∃ v8 ts ks D' last', σ = [some (.ref p), some (.ref sa), some (.ref r), some (.ref d), some (.int z), none, some (.ref qk), some (.ref qy), v8, none] ∧ But4 p r n d H H' ∧
          H' qk = some (.lst (ts.map fun t => V.int (num l t))) ∧ H' qy = some (.lst (ks.map V.int)) ∧ PotOk H' p (B + (((s.ks.take i).map (pgsS l)).sum : Nat)) ∧
          RestAt H' p r n d (ps.drop ((s.ks.take i).map (cntS l)).sum) (ns1.drop ((s.ks.take i).map (pgsS l)).sum) last' ∧ DctAt H' d (D ++ D') ∧ Mid l s.ks i ts ks ps ns1 D D' last last')
          ⟨none, [], [], [], last, rfl, b1.same s2, hk2, hy2, ?_, ?_, ?_, Mid.zero I.above I.last0 I.last9⟩ (fun i σ H' hi z => ?_) ?_ ?_
        · refine (hp1.same s2).le ?_
          show B ≤ B + ((0 : Nat) : Int)
          omega
        · exact ⟨a, s2 _ _ hr1, ⟨xs, s2 _ _ hx1, paired_imp (fun _ _ r => PrAt.keep (Keep.of s2) r) hpx1⟩, s2 _ _ hn1, nap, nar, nan, nad⟩
        · rw [List.append_nil]
          exact ⟨es, s2 _ _ hd1, paired_imp (fun _ _ (r : EnAt H1 _ _) => (⟨r.1, r.2.keep (Keep.of s2)⟩ : EnAt _ _ _)) hde1⟩
        · obtain ⟨v8, ts, ks, D', last', _, b, _⟩ := z
          exact SqT.of (b.keep I.pot I.rest I.dct _ _ hsa)
        · rintro i x σ H3 hxi ⟨v8, ts, ks, D', last', rfl, b3, hk3, hy3, hp3, hr3, hd3, M⟩
          obtain ⟨k, hk, hsk⟩ := pget1 hsp hxi
          have hi : i < s.ks.length := by
            rw [← hsl]
            exact (List.getElem?_eq_some_iff.mp hxi).1
          have k3 : Keep H H3 := b3.keep I.pot I.rest I.dct
          have hwk := hwf.2.2 k (List.mem_of_getElem? hk)
          have cp := cnt_pos room3 hwk
          have c1 := sum_part1 (cntS l) hk
          have p1 := sum_part1 (pgsS l) hk
          have htl : ts.length = i := by
            have z := congrArg List.length M.shapes
            rw [List.length_map, List.length_take] at z
            omega
          obtain ⟨a3, hr3a, ⟨xs3, hx3, hpx3⟩, hn3, na3⟩ := hr3
          obtain ⟨es3, hd3a, hde3⟩ := hd3
          -- the key
          refine ⟨fun σ' H' => σ' = [some (.ref p), some (.ref sa), some (.ref r), some (.ref d), some (.int z), none, some (.ref qk), some (.ref qy), some x, none] ∧ (∀ b o, b ≠ p → b ≠ qy → H3 b = some o → H' b = some o) ∧
            PotOk H' p (B + (((s.ks.take i).map (pgsS l)).sum : Nat) + 1) ∧ ∃ ks', H' qy = some (.lst (ks'.map V.int)) ∧ ((i = 0 ∧ ks' = []) ∨ (i ≠ 0 ∧ ∃ a, ks' = ks ++ [a] ∧ last' < a ∧ ∀ q ∈ ps.drop ((s.ks.take i).map (cntS l)).sum, a ≤ q.1)), ?_, ?_⟩
          · refine ⟨_, rfl, Nat.zero_le _, fun q hq => ?_⟩
            have s4 : Same H3 (upd H3 q (.lst [])) := same_new hq
            have hq4 : upd H3 q (.lst []) q = some (.lst []) := upd_same
            generalize upd H3 q (.lst []) = H4 at s4 hq4
            have hk4 := s4 _ _ hk3
            have hy4 := s4 _ _ hy3
            have hp4 := hp3.same s4
            have e1 : (ts.map fun t => V.int (num l t)) = (ts.map (num l)).map V.int := by rw [List.map_map]; rfl
            rw [e1] at hk4
            refine ⟨.list ((ts.map (num l)).map PyData.int), .list (([] : List Int).map PyData.int), .lst (SqL.of hk4) (dpa_ints _), .lst (SqL.of hq4) .nil, shaped_ints _, shaped_ints _, _, rfl, ?_⟩
            rw [eqv_ints]
            by_cases hi0 : i = 0
            · have ets : ts = [] := List.eq_nil_of_length_eq_zero (by omega)
              rw [ets]
              refine iteF ?_
              exact ⟨rfl, fun b o _ _ e => s4 _ _ e, hp4.le (by omega), ks, hy4, .inl ⟨hi0, M.empty hi0⟩⟩
            · have hne : decide (ts.map (num l) = []) = false := decide_eq_false fun e => by
                have z := congrArg List.length e
                rw [List.length_map, List.length_nil] at z
                omega
              rw [hne]
              refine iteT ?_
              obtain ⟨y, hy⟩ : ∃ y, (ps.drop ((s.ks.take i).map (cntS l)).sum)[0]? = some y := by
                refine ⟨_, List.getElem?_eq_getElem ?_⟩
                rw [List.length_drop]
                omega
              obtain ⟨xv, hxv, t0, rfl, ht0⟩ := pget2 hpx3 hy
              have hy9 : y.1 ≤ 1000000000 := (I.ok.2 y (List.mem_of_mem_drop (List.mem_of_getElem? hy))).2.1
              have hlast : last' < y.1 := M.above y (List.mem_of_getElem? hy)
              have hl1 : -1 ≤ last' := Int.le_trans I.last0 M.le
              refine ⟨_, rfl, .inl ⟨rfl, _, SqL.of hy4⟩, ?_⟩
              refine ⟨_, rfl, r, _, _, _, rfl, rfl, SqL.of (s4 _ _ hr3a), rfl, _, _, rfl, rfl, ?_⟩
              refine ⟨_, rfl, _, rfl, r, _, _, _, rfl, rfl, SqL.of (s4 _ _ hr3a), rfl, a3, _, _, _, rfl, rfl, SqL.of (s4 _ _ hx3), at_of hxv rfl, t0, _, _, _, rfl, rfl, SqT.of (s4 _ _ ht0), rfl, ?_⟩
              refine ⟨_, rfl, r, _, _, _, rfl, rfl, SqL.of (s4 _ _ hr3a), rfl, _, _, rfl, rfl, ?_⟩
              refine ⟨p, y.1 - last', _, rfl, by omega, by omega, hp4, by omega, fun H5 v b5 hp5 l5 u5 => ?_⟩
              refine ⟨_, _, rfl, rfl, ?_⟩
              have hy5 := b5 _ _ nqy.1 hy4
              refine ⟨qy, _, _, rfl, rfl, hy5, ?_, ?_⟩
              · rw [List.length_map]
                have := M.few
                exact Nat.lt_of_le_of_lt (by omega : _ ≤ 100000) (by decide)
              refine ⟨rfl, fun b o n1 n2 e => ?_, hp5.put nqy.1.symm, ks ++ [last' + 1 + v], ?_, .inr ⟨hi0, _, rfl, by omega, fun q hq => ?_⟩⟩
              · rw [upd_ne n2]
                exact b5 _ _ n1 (s4 _ _ e)
              · rw [upd_same, List.map_append]
                rfl
              · have hpw := I.ok.1.sublist (List.drop_sublist ((s.ks.take i).map (cntS l)).sum ps)
                have : y.1 ≤ q.1 := by
                  cases c : ps.drop ((s.ks.take i).map (cntS l)).sum with
                  | nil => rw [c] at hq; cases hq
                  | cons y' r =>
                    rw [c] at hy hq hpw
                    have ey : y' = y := Option.some.inj hy
                    subst ey
                    rcases List.mem_cons.mp hq with rfl | hq
                    · exact Int.le_refl _
                    · exact Int.le_of_lt ((List.pairwise_cons.mp hpw).1 q hq)
                omega
          · rintro σ' H4 ⟨rfl, b4, hp4, ks', hy4, hks⟩
            have hdne : ps.drop ((s.ks.take i).map (cntS l)).sum ≠ [] := fun e => by
              have z := congrArg List.length e
              rw [List.length_drop, List.length_nil] at z
              omega
            have na3y : a3 ≠ qy := pr_ne hx3 hpx3 hy3 (.inl hdne)
            have hr4 := b4 _ _ npr.symm nqy.2.1.symm hr3a
            have hn4 := b4 _ _ npn.symm nqy.2.2.1.symm hn3
            have hd4 := b4 _ _ npd.symm nqy.2.2.2.symm hd3a
            have hx4 := b4 _ _ na3.1 na3y hx3
            have hk4 := b4 _ _ nqk.1 nky hk3
            have k4 : Keep H3 H4 := ⟨fun c u tu e => b4 c _ (tpb_no hp3.noTup tu e) (fun z => by subst z; rw [hy3] at e; cases e; cases tu) e⟩
            have k04 : Keep H H4 := k3.trans k4
            have hDl : D'.length = ((s.ks.take i).map (pgsS l)).sum := by
              have z := M.perm.length_eq
              rw [List.length_map, M.number, List.length_take] at z
              omega
            refine ⟨_, rfl, .inl ⟨rfl, _, SqL.of hk4⟩, _, rfl, _, rfl, _, rfl, _, rfl, ?_⟩
            refine ⟨l, room, false, x, k, p, r, n, d, ps.drop ((s.ks.take i).map (cntS l)).sum, ns1.drop ((s.ks.take i).map (pgsS l)).sum, D ++ D', last', B + (((s.ks.take i).map (pgsS l)).sum : Nat) + 1, rfl, by omega, hwk, hsk.keep k04, ?_, fun H5 t5 D5 last5 b5 hp5 hr5 hd5 g => ?_⟩
            · refine ⟨room3, room8, hp4, by omega, ⟨a3, hr4, ⟨xs3, hx4, paired_imp (fun _ _ r => PrAt.keep k4 r) hpx3⟩, hn4, na3⟩, ⟨es3, hd4, paired_imp (fun _ _ (r : EnAt H3 _ _) => (⟨r.1, r.2.keep k4⟩ : EnAt _ _ _)) hde3⟩, I.dif,
                ⟨I.ok.1.sublist (List.drop_sublist _ _), fun q hq => I.ok.2 q (List.mem_of_mem_drop hq)⟩, M.above, Int.le_trans I.last0 M.le, M.le9, by rw [List.length_drop]; omega, by rw [List.length_drop]; omega, nd1.sublist (List.drop_sublist _ _), fun u hu => ?_, by rw [List.length_drop]; omega, by rw [List.length_drop, List.length_append]; omega⟩
              refine lkp_none fun q hq e => ?_
              rcases List.mem_append.mp hq with hq | hq
              · exact lkp_ne (I.fresh u (List.mem_cons_of_mem _ (List.mem_of_mem_drop hu))) q hq e
              · have m : q.1 ∈ ts.flatMap (nums l) := M.perm.mem_iff.mp (List.mem_map_of_mem hq)
                rw [M.number, e] at m
                have nd2 := nd1
                rw [← List.take_append_drop ((s.ks.take i).map (pgsS l)).sum ns1] at nd2
                exact (List.nodup_append.mp nd2).2.2 u m u hu rfl
            · have M' := M.step hk hks g cp (by omega)
              have hk5 := b5 _ _ nqk.1 nqk.2.1 nqk.2.2.1 nqk.2.2.2 hk4
              have hy5 := b5 _ _ nqy.1 nqy.2.1 nqy.2.2.1 nqy.2.2.2 hy4
              obtain ⟨a5, hr5a, ⟨xs5, hx5, hpx5⟩, hn5, na5⟩ := hr5
              obtain ⟨es5, hd5a, hde5⟩ := hd5
              have na5k : a5 ≠ qk := by
                have e1 : (ts.map fun t => V.int (num l t)) = (ts.map (num l)).map V.int := by rw [List.map_map]; rfl
                rw [e1] at hk5
                refine pr_ne hx5 hpx5 hk5 ?_
                by_cases c : ts = []
                · refine .inl fun e => ?_
                  have z := congrArg List.length e
                  rw [List.length_drop, List.length_drop, List.length_nil] at z
                  have hi0 : i = 0 := by rw [← htl, c]; rfl
                  have hk1 : i + 1 < s.ks.length := by omega
                  have c2 := sum_part1 (cntS l) (List.getElem?_eq_getElem hk1)
                  have c3 := cnt_pos room3 (hwf.2.2 _ (List.getElem_mem hk1))
                  rw [sum_more (cntS l) hk] at c2
                  omega
                · exact .inr fun e => c (List.map_eq_nil_iff.mp e)
              refine ⟨qk, _, _, rfl, rfl, hk5, ?_, ?_⟩
              · rw [List.length_map]
                exact Nat.lt_of_le_of_lt (by omega : _ ≤ 100000) (by decide)
              have k5 : Keep H5 (upd H5 qk (.lst ((ts.map fun t => V.int (num l t)) ++ [V.int (num l t5)]))) := (Keep.refl H5).upd fun ys e => by rw [hk5] at e; cases e; rfl
              refine ⟨_, ts ++ [t5], ks', D' ++ D5, last5, rfl, fun b o n1 n2 n3 n4 e => ?_, ?_, ?_, ?_, ?_, ?_, M'⟩
              · have z3 := b3 b o n1 n2 n3 n4 e
                have nbk : b ≠ qk := fun q => by
                  subst q
                  have : H1 b = some o := b1 b o n1 n2 n3 n4 e
                  rw [this] at hqk
                  cases hqk
                have nby : b ≠ qy := fun q => by
                  subst q
                  have : H1 b = some o := b1 b o n1 n2 n3 n4 e
                  rw [same_new hqk _ _ this] at hqy
                  cases hqy
                rw [upd_ne nbk]
                exact b5 _ _ n1 n2 n3 n4 (b4 _ _ n1 nby z3)
              · rw [upd_same, List.map_append]
                rfl
              · rw [upd_ne nky.symm]
                exact hy5
              · refine (hp5.put nqk.1.symm).le ?_
                rw [sum_more (pgsS l) hk]
                omega
              · refine ⟨a5, by rw [upd_ne nqk.2.1.symm]; exact hr5a, ⟨xs5, by rw [upd_ne na5k]; exact hx5, ?_⟩, ?_, na5⟩
                · rw [sum_more (cntS l) hk, ← List.drop_drop]
                  exact paired_imp (fun _ _ r => PrAt.keep k5 r) hpx5
                · rw [upd_ne nqk.2.2.1.symm, sum_more (pgsS l) hk, ← List.drop_drop]
                  exact hn5
              · refine ⟨es5, by rw [upd_ne nqk.2.2.2.symm]; exact hd5a, ?_⟩
                rw [← List.append_assoc]
                exact paired_imp (fun _ _ (r : EnAt H5 _ _) => (⟨r.1, r.2.keep k5⟩ : EnAt _ _ _)) hde5
        · rintro σ H3 ⟨v8, ts, ks, D', last', rfl, b3, hk3, hy3, hp3, hr3, hd3, M⟩
          rw [hsl] at M hr3 hp3
          have k3 : Keep H H3 := b3.keep I.pot I.rest I.dct
          obtain ⟨a3, hr3a, ⟨xs3, hx3, hpx3⟩, hn3, na3⟩ := hr3
          obtain ⟨es3, hd3a, hde3⟩ := hd3
          have e1 : (ts.map fun t => V.int (num l t)) = (ts.map (num l)).map V.int := by rw [List.map_map]; rfl
          rw [e1] at hk3
          refine ⟨_, rfl, qy, _, rfl, .inl ⟨SqL.of hy3, fun q1 hq1 => ?_⟩⟩
          have s4 : Same H3 (upd H3 q1 (.tup (ks.map V.int))) := same_new hq1
          refine ⟨_, rfl, qk, _, rfl, SqL.of (s4 _ _ hk3), fun q2 o2 hq2 ho2 => ⟨by show 3 ≤ sizeLine; decide, fun t ht => ?_⟩⟩
          have n12 : q1 ≠ q2 := ne_of_none (upd_same : upd H3 q1 (.tup (ks.map V.int)) q1 = _) hq2
          have hq25 : upd (upd H3 q1 (.tup (ks.map V.int))) q2 (.frz o2 (.tup ((ts.map (num l)).map V.int))) q2 = some (.frz o2 (.tup ((ts.map (num l)).map V.int))) := upd_same
          have hq15 : upd (upd H3 q1 (.tup (ks.map V.int))) q2 (.frz o2 (.tup ((ts.map (num l)).map V.int))) q1 = some (.tup (ks.map V.int)) := by rw [upd_ne n12]; exact upd_same
          have s5 := s4.trans (same_new (o := .frz o2 (.tup ((ts.map (num l)).map V.int))) hq2)
          generalize upd (upd H3 q1 (.tup (ks.map V.int))) q2 (.frz o2 (.tup ((ts.map (num l)).map V.int))) = H5 at hq25 hq15 s5 ht
          have s6 := s5.trans (same_new (o := .tup [.str "node", .ref q1, .ref q2]) ht)
          have ht6 : upd H5 t (.tup [.str "node", .ref q1, .ref q2]) t = some (.tup [.str "node", .ref q1, .ref q2]) := upd_same
          have hq16 := same_new (o := .tup [.str "node", .ref q1, .ref q2]) ht _ _ hq15
          have hq26 := same_new (o := .tup [.str "node", .ref q1, .ref q2]) ht _ _ hq25
          generalize upd H5 t (.tup [.str "node", .ref q1, .ref q2]) = H6 at s6 ht6 hq16 hq26
          have hDl : D'.length = ((s.ks.take s.ks.length).map (pgsS l)).sum := by
            have z := M.perm.length_eq
            rw [List.length_map, M.number, List.length_take, List.take_length] at z
            rw [List.take_length]
            omega
          rw [List.take_length] at hDl
          refine ⟨_, rfl, _, rfl, d, _, rfl, DPut.k (k := .inl z) (s6 _ _ hd3a) ?_, ?_⟩
          · have := Paired.length hde3
            rw [List.length_append] at this
            exact Nat.lt_of_le_of_lt (by omega : es3.length ≤ 100000) (by decide)
          have b9 : But4 p r n d H (upd H6 d (.dK (putK es3 (.inl z) (.ref t)))) := (b3.same s6).put (.inr (.inr (.inr rfl)))
          have k69 : Keep H6 (upd H6 d (.dK (putK es3 (.inl z) (.ref t)))) := (Keep.refl H6).upd fun ys e => by rw [s6 _ _ hd3a] at e; cases e; rfl
          have k39 := (Keep.of s6).trans k69
          have G := M.done (by omega) (fun q hq => ⟨(I.ok.2 q hq).1, by have := (I.ok.2 q hq).2.1; omega⟩) (I.fresh z (List.mem_cons_self ..)) hzn
          have hd' : lkp (D ++ D') z = none := lkp_none fun q hq e => by
            rcases List.mem_append.mp hq with hq | hq
            · exact lkp_ne (I.fresh z (List.mem_cons_self ..)) q hq e
            · have m : q.1 ∈ ts.flatMap (nums l) := M.perm.mem_iff.mp (List.mem_map_of_mem hq)
              rw [M.number, e] at m
              exact hzn (List.mem_of_mem_take m)
          refine ⟨_, rfl, kq _ (ndT z ks ts) _ last' b9 ?_ ?_ ?_ G⟩
          · refine ((hp3.same s6).put npd).le ?_
            rw [List.take_length]
            omega
          · refine ⟨a3, by rw [upd_ne nrd]; exact s6 _ _ hr3a, ⟨xs3, by rw [upd_ne na3.2.2.2]; exact s6 _ _ hx3, ?_⟩, ?_, na3⟩
            · rw [List.take_length] at hpx3
              exact paired_imp (fun _ _ r => PrAt.keep k39 r) hpx3
            · rw [upd_ne nnd]
              have z := s6 _ _ hn3
              rw [List.take_length] at z
              rw [hP, Nat.add_comm 1]
              exact z
          · refine ⟨_, upd_same, ?_⟩
            rw [← List.append_assoc]
            exact DctAt.put (paired_imp (fun _ _ (r : EnAt H3 _ _) => (⟨r.1, r.2.keep k39⟩ : EnAt _ _ _)) hde3) hd' ⟨t, q1, q2, rfl, k69 _ _ ht6, k69 _ _ hq16, o2, k69.frz hq26, ho2⟩
end
end K12

namespace K12
open PySem PySem.Spec PyProof.Rows L2 RZ HX TR
theorem DctAt.get {H : Hp} {d : Addr} {D : List (Int × Pg)} (h : DctAt H d D) {k : Int} {g : Pg} (e : lkp D k = some g) : ∃ v, DGet H d (.int k) (some v) ∧ PgAt H v g := by
  obtain ⟨es, h1, h2⟩ := h
  rcases valV_of (k := k) h2 with ⟨z, _⟩ | ⟨g', v, z, hv, hg⟩
  · rw [z] at e
    cases e
  · rw [z] at e
    cases e
    exact ⟨v, hv ▸ DGet.k (k := .inl k) h1, hg⟩
theorem DctAt.same {H H' : Hp} {d : Addr} {D : List (Int × Pg)} (h : DctAt H d D) (s : Same H H') : DctAt H' d D := by
  obtain ⟨es, h1, h2⟩ := h
  exact ⟨es, s _ _ h1, paired_imp (fun _ _ (r : EnAt H _ _) => (⟨r.1, r.2.keep (Keep.of s)⟩ : EnAt _ _ _)) h2⟩
theorem DctAt.len {H : Hp} {d : Addr} {D : List (Int × Pg)} (h : DctAt H d D) : ∃ es : List (Key × V), H d = some (.dK es) ∧ es.length = D.length := by
  obtain ⟨es, h1, h2⟩ := h
  exact ⟨es, h1, Paired.length h2⟩
section
variable {P : Program} {w : World} {K : PySem.W.Frag} {mg : Str → Option Value} {base : Heap}
def sp_law_leaves (N : Nat) : Sp := fun vs H Q _ => ∃ (l : Nat) (t : Tr l) (d : Addr) (D : List (Int × Pg)), vs = [.ref d, .int (num l t)] ∧ l < N ∧ DctAt H d D ∧ Laid D l t ∧ (lvs l t).length ≤ 100000 ∧
  ∀ (H' : Hp) (a : Addr), Same H H' → H a = none → H' a = some (.lst ((lvs l t).map V.int)) → Q (.ref a) H'
theorem ok_law_leaves (T : TX K mg) : ∀ N : Nat, FnOk P w K mg base CX0 (N + 1) (He.ga K "_law_leaves") T.fd_law_leaves ["pages", "number"] (sp_law_leaves N) := by
  intro N
  induction N with
  | zero =>
    refine T.F_law_leaves.ok sc_law_leaves (fun vs H Q E h => ?_) (fun cdv A outer st H vs Q E hr h => ?_)
    · obtain ⟨l, t, d, D, rfl, _⟩ := h
      rfl
    · obtain ⟨l, t, d, D, rfl, h1, _⟩ := h
      omega
  | succ N ih =>
    have G_law_leaves := ih
    have b_law_leaves := b_law_leaves T
    refine T.F_law_leaves.ok sc_law_leaves (fun vs H Q E h => ?_) (fun cdv A outer st H vs Q E hr h => ?_)
    · obtain ⟨l, t, d, D, rfl, _⟩ := h
      rfl
    · obtain ⟨l, t, d, D, rfl, hl, hd, hL, hfew, kq⟩ := h
      refine ⟨_, PSs.nox (pss_cons (ps_if (pt_cmpR op_eq (pe_ix ix_tup (pe_dget (hu_of hr) (pv 0) (pv 1) (fun _ _ => rfl)) pe_int (fun _ _ => rfl)) pe_str (nomark _))
 (pss_one (ps_ret (pe_lst (pa_cons (pv 1) pa_nil))))
 pss_nil)
 (pss_cons (ps_set (i := 2) sc_law_leaves.nd rfl (Or.inl rfl) (pe_lst pa_nil))
 (pss_cons (ps_for PassesOwn.never rfl (pi_tup (pe_ix ix_tup (pe_dget (hu_of hr) (pv 0) (pv 1) (fun _ _ => rfl)) pe_int (fun _ _ => rfl))) (pg_name (i := 3) sc_law_leaves.nd rfl (Or.inl rfl))
 (pss_one (ps_expr (pe_bm PySem.F.plainAttrs_list PySem.F.slot_list_extend PySem.F.type_list_extend mt_extend (pv 2) (pa_cons (pe_call G_law_leaves (hr.mono (by first | decide | omega)) rfl T.g_law_leaves T.F_law_leaves.kp b_law_leaves .nil pass0 (pa_cons (pv 0) (pa_cons (pv 3) pa_nil))) pa_nil)))))
 (pss_one (ps_ret (pv 2)))))), ?_⟩
      cases l with
      | zero =>
        obtain ⟨nx, hk⟩ := hL
        obtain ⟨v, hv, t1, q, rfl, ht1, _⟩ := hd.get hk
        refine ⟨_, rfl, _, rfl, d, _, rfl, hv, t1, _, _, _, rfl, rfl, SqT.of ht1, rfl, rfl, _, rfl, ?_⟩
        refine iteT ?_
        refine ⟨_, rfl, by show 1 ≤ sizeLine; decide, fun q1 hq1 => kq _ q1 (same_new hq1) hq1 upd_same⟩
      | succ l =>
        obtain ⟨hk, hks⟩ := hL
        obtain ⟨v, hv, t1, q1, q2, rfl, ht1, _, hq2⟩ := hd.get hk
        refine ⟨_, rfl, _, rfl, d, _, rfl, hv, t1, _, _, _, rfl, rfl, SqT.of ht1, rfl, rfl, _, rfl, ?_⟩
        refine iteF ?_
        refine ⟨Nat.zero_le _, fun f hf => ?_⟩
        have s1 : Same H (upd H f (.lst [])) := same_new hf
        have hf1 : upd H f (.lst []) f = some (.lst []) := upd_same
        generalize upd H f (.lst []) = H1 at s1 hf1
        obtain ⟨v1, hv1, t3, q3, q4, e3, ht3, _, hq4⟩ := (hd.same s1).get hk
        subst e3
        refine ⟨_, rfl, _, rfl, d, _, rfl, hv1, t3, _, _, _, rfl, rfl, SqT.of ht3, rfl, q4, rfl, ⟨_, hq4.sq⟩, ?_⟩
        have hlen : ((t.kids.map (num l)).map V.int).length = t.kids.length := by rw [List.length_map, List.length_map]
        refine for_tup (xs := (t.kids.map (num l)).map V.int) (fun i σ H' => ∃ v3, σ = [some (.ref d), some (.int (num (l + 1) t)), some (.ref f), v3] ∧ But f H1 H' ∧ H' f = some (.lst (((t.kids.take i).flatMap (lvs l)).map V.int)))
          ⟨_, rfl, But.refl f H1, hf1⟩ (fun i σ H' hi z => ?_) ?_ ?_
        · obtain ⟨v3, _, b, _⟩ := z
          exact (hq4.keep (Keep.but b fun u e => by rw [hf1] at e; cases e; rfl)).sq
        · rintro i x σ H3 hxi ⟨v3, rfl, b3, hf3⟩
          obtain ⟨k, hk', rfl⟩ : ∃ k, t.kids[i]? = some k ∧ x = .int (num l k) := by
            rw [List.getElem?_map, List.getElem?_map] at hxi
            cases c : t.kids[i]? with
            | none => rw [c] at hxi; cases hxi
            | some k => rw [c] at hxi; exact ⟨k, rfl, (Option.some.inj hxi).symm⟩
          have hd3 : DctAt H3 d D := by
            obtain ⟨es, h1, h2⟩ := hd.same s1
            have k13 : Keep H1 H3 := Keep.but b3 fun ys e => by rw [hf1] at e; cases e; rfl
            refine ⟨es, b3 _ _ (fun e => ?_) h1, paired_imp (fun _ _ (r : EnAt H1 _ _) => (⟨r.1, r.2.keep k13⟩ : EnAt _ _ _)) h2⟩
            rw [e, hf1] at h1
            cases h1
          have mk : k ∈ t.kids := List.mem_of_getElem? hk'
          have part : ((t.kids.take i).flatMap (lvs l)).length + (lvs l k).length ≤ (lvs (l + 1) t).length := by
            have z := sum_part1 (fun u => (lvs l u).length) hk'
            rw [List.length_flatMap]
            show _ ≤ (t.kids.flatMap (lvs l)).length
            rw [List.length_flatMap]
            exact z
          refine ⟨_, rfl, .inl ⟨rfl, _, SqL.of hf3⟩, _, rfl, _, rfl, ?_⟩
          refine ⟨l, k, d, D, rfl, by omega, hd3, hks k mk, by omega, fun H5 a s5 _ ha => ?_⟩
          refine ⟨f, a, _, _, rfl, rfl, s5 _ _ hf3, ha, ?_, _, rfl, (But.trans b3 (But.of s5)).upd, ?_⟩
          · rw [List.length_map, List.length_map]
            exact Nat.le_trans (by omega : _ ≤ 100000) (by decide)
          · rw [upd_same, take_more hk', List.flatMap_append, List.map_append]
            simp
        · rintro σ H3 ⟨v3, rfl, b3, hf3⟩
          rw [hlen, List.take_length] at hf3
          refine ⟨_, rfl, kq H3 f (fun b o e => ?_) hf hf3⟩
          exact b3 _ _ (fun z => by rw [z, hf] at e; cases e) (s1 _ _ e)
end
end K12

namespace K12
open PySem PySem.Spec PyProof.Rows L2 RZ HX TR
theorem cut_from' {xs : List V} {n : Nat} : cutV xs (some (n : Int)) none = xs.drop n := by
  by_cases h : n ≤ xs.length
  · exact cut_from h
  · have e1 : HT.sIx xs.length 0 (some (n : Int)) = xs.length := by rw [HT.sIx_nat]; omega
    have e2 : HT.sIx xs.length xs.length none = xs.length := rfl
    unfold cutV
    rw [e1, e2, List.drop_of_length_le (by omega : xs.length ≤ n), List.drop_length, List.take_nil]
theorem map_at {α β : Type} {f : α → β} {xs : List α} {i : Nat} {y : β} (h : (xs.map f)[i]? = some y) : ∃ x, xs[i]? = some x ∧ y = f x := by
  rw [List.getElem?_map] at h
  cases c : xs[i]? with
  | none => rw [c] at h; cases h
  | some x => rw [c] at h; exact ⟨x, rfl, (Option.some.inj h).symm⟩
theorem DctAt.set {H : Hp} {k : Int} {v : V} {g : Pg} (hv : PgAt H v g) : ∀ {es : List (Key × V)} {D : List (Int × Pg)}, Paired (EnAt H) es D → Paired (EnAt H) (es.map fun kv => if kv.1 = .inl k then (kv.1, v) else kv) (setp D k g)
  | _, _, .nil => .nil
  | e :: es, q :: D, .cons r rs => by
    refine .cons ?_ (DctAt.set hv rs)
    obtain ⟨r1, r2⟩ := r
    show EnAt H (if e.1 = .inl k then (e.1, v) else e) (if q.1 = k then (q.1, g) else q)
    by_cases c : q.1 = k
    · rw [if_pos c, if_pos (by rw [r1, c])]
      exact ⟨r1, hv⟩
    · rw [if_neg c, if_neg (fun z => c (by rw [r1] at z; injection z))]
      exact ⟨r1, r2⟩
theorem putK_old {H : Hp} {es : List (Key × V)} {D : List (Int × Pg)} {k : Int} {v : V} {g : Pg} (h : Paired (EnAt H) es D) (hn : lkp D k = some g) : putK es (.inl k) v = es.map fun kv => if kv.1 = .inl k then (kv.1, v) else kv := by
  unfold putK
  rw [if_pos]
  obtain ⟨i, hi⟩ := List.getElem?_of_mem (lkp_mem hn)
  obtain ⟨e, he, r1, _⟩ := pget2 h hi
  exact List.any_eq_true.mpr ⟨e, List.mem_of_getElem? he, decide_eq_true r1⟩
theorem dct_keys {H : Hp} : ∀ {es : List (Key × V)} {D : List (Int × Pg)}, Paired (EnAt H) es D → ∃ ks : List (Int × Addr), es = ks.map HS.entK ∧ Paired (fun (k : Int × Addr) q => k.1 = q.1 ∧ PgAt H (.ref k.2) q.2) ks D
  | _, _, .nil => ⟨[], rfl, .nil⟩
  | (k, v) :: es, (n, g) :: D, .cons r rs => by
    obtain ⟨r1, r2⟩ := r
    obtain ⟨ks, e, h⟩ := dct_keys rs
    dsimp only at r1 r2
    subst r1
    have hv : ∃ a, v = .ref a := by
      cases g with
      | leaf ps nx => obtain ⟨t, _, e, _⟩ := r2; exact ⟨t, e⟩
      | node ks kids => obtain ⟨t, _, _, e, _⟩ := r2; exact ⟨t, e⟩
    obtain ⟨a, rfl⟩ := hv
    exact ⟨(n, a) :: ks, by rw [e]; rfl, .cons ⟨rfl, r2⟩ h⟩
def NumAt (H : Hp) (x : V) (q : Int × Pg) : Prop := ∃ t v, x = .ref t ∧ H t = some (.tup [.int q.1, v]) ∧ PgAt H v q.2
def TreeAt (H : Hp) (v : V) (room root : Int) (S : List (Int × Pg)) : Prop := ∃ a b o xs, v = .ref a ∧ H a = some (.tup [.int room, .int root, .ref b]) ∧ H b = some (.frz o (.tup xs)) ∧ o.dict = none ∧ Paired (NumAt H) xs S
theorem NumAt.keep {H H' : Hp} (k : Keep H H') {x : V} {q : Int × Pg} (h : NumAt H x q) : NumAt H' x q := by
  obtain ⟨t, v, e, h1, h2⟩ := h
  exact ⟨t, v, e, k _ _ h1, h2.keep k⟩
theorem TreeAt.same {H H' : Hp} (k : Same H H') {v : V} {room root : Int} {S : List (Int × Pg)} (h : TreeAt H v room root S) : TreeAt H' v room root S := by
  obtain ⟨a, b, o, xs, e, h1, h2, h3, h4⟩ := h
  exact ⟨a, b, o, xs, e, k _ _ h1, k _ _ h2, h3, paired_imp (fun _ _ r => NumAt.keep (Keep.of k) r) h4⟩
theorem TreeAt.but {H H' : Hp} {p : Addr} {B : Int} (k : But p H H') (hp : PotOk H p B) {v : V} {room root : Int} {S : List (Int × Pg)} (h : TreeAt H v room root S) : TreeAt H' v room root S := by
  obtain ⟨a, b, o, xs, e, h1, h2, h3, h4⟩ := h
  refine ⟨a, b, o, xs, e, hp.keep k _ _ h1, k _ _ (fun z => ?_) h2, h3, paired_imp (fun _ _ r => NumAt.keep (hp.keep k) r) h4⟩
  obtain ⟨x, y, c, h0, _⟩ := hp
  rw [z, h0] at h2
  cases h2
theorem erase_map {α β : Type} (f : α → β) : ∀ (l : List α) (k : Nat), (l.map f).eraseIdx k = (l.eraseIdx k).map f
  | [], _ => rfl
  | _ :: _, 0 => rfl
  | a :: l, k + 1 => by
    show f a :: (l.map f).eraseIdx k = f a :: (l.eraseIdx k).map f
    rw [erase_map f l k]
theorem seqk {k n : Nat} (h : k < n) : seqIndex? (k : Int) n = some k := by
  show (let j := if (k : Int) < 0 then (k : Int) + (n : Int) else (k : Int); if (decide (0 ≤ j) && decide (j < (n : Int))) = true then some j.toNat else none) = some k
  have e : ¬ (k : Int) < 0 := by omega
  simp only [if_neg e]
  rw [if_pos (by simp; omega), Int.toNat_natCast]
theorem erase_perm {α : Type} : ∀ {l : List α} {k : Nat} (h : k < l.length), (l[k] :: l.eraseIdx k).Perm l
  | a :: l, 0, _ => .refl _
  | a :: l, k + 1, h => (List.Perm.swap a _ _).trans (List.Perm.cons a (erase_perm (l := l) (k := k) (Nat.lt_of_succ_lt_succ h)))
theorem keys_eq {H : Hp} : ∀ {ks : List (Int × Addr)} {S : List (Int × Pg)}, Paired (fun (k : Int × Addr) q => k.1 = q.1 ∧ PgAt H (.ref k.2) q.2) ks S → ks.map (·.1) = S.map (·.1)
  | _, _, .nil => rfl
  | k :: ks, q :: S, .cons r rs => by
    rw [List.map_cons, List.map_cons, keys_eq rs, r.1]
theorem num_paired {H H' : Hp} (k : Keep H H') : ∀ {ps : List (Addr × Int × Addr)} {S : List (Int × Pg)}, Paired (fun (k : Int × Addr) q => k.1 = q.1 ∧ PgAt H (.ref k.2) q.2) (ps.map (·.2)) S → (∀ z ∈ ps, H' z.1 = some (.tup [.int z.2.1, .ref z.2.2])) →
    Paired (NumAt H') (ps.map fun z => V.ref z.1) S
  | [], [], .nil, _ => .nil
  | z :: ps, q :: S, .cons r rs, h => .cons ⟨z.1, .ref z.2.2, rfl, by rw [← r.1]; exact h z (List.mem_cons_self ..), r.2.keep k⟩ (num_paired k rs fun y hy => h y (List.mem_cons_of_mem _ hy))
/-- all but three stay -/
def But3 (p r n : Addr) (H H' : Hp) : Prop := ∀ b o, b ≠ p → b ≠ r → b ≠ n → H b = some o → H' b = some o
end K12

namespace K12
open PySem PySem.Spec PyProof.Rows L2 RZ HX TR
section
variable {P : Program} {w : World} {K : PySem.W.Frag} {mg : Str → Option Value} {base : Heap}
def sp_law_tree : Sp := fun vs H Q _ => ∃ (p : Addr) (room l wide : Nat) (B : Int), vs = [.ref p, .int (room : Int), .int ((l + 1 : Nat) : Int), .int (wide : Int)] ∧ l < 6 ∧ 3 ≤ room ∧ room ≤ 8 ∧ wide ≤ 1000 ∧ cS room l ≤ 600 ∧ PotOk H p B ∧ B < 2 ^ 38 ∧
  ∀ (H' : Hp) (v : V) (t : Tr l) (S : List (Int × Pg)), But p H H' → PotOk H' p (B + 200000) → Tree room l t S → TreeAt H' v room (num l t) S → Q v H'
theorem ok_law_tree (T : TX K mg) : FnOk P w K mg base CX0 9 (He.ga K "_law_tree") T.fd_law_tree ["pot", "room", "levels", "wide"] sp_law_tree := by
  have G_law_take : FnOk P w K mg base CX0 1 (He.ga K "_law_take") T.fd_law_take ["pot", "many"] sp_law_take := ok_law_take T
  have b_law_take := b_law_take T
  have G_law_shape : FnOk P w K mg base CX0 8 (He.ga K "_law_shape") T.fd_law_shape ["pot", "room", "levels", "top", "wide"] (sp_law_shape 6) := ok_law_shape T 6
  have b_law_shape := b_law_shape T
  have G_law_pages : FnOk P w K mg base CX0 7 (He.ga K "_law_pages") T.fd_law_pages ["shape"] (sp_law_pages 6) := ok_law_pages T 6
  have b_law_pages := b_law_pages T
  have G_law_many : FnOk P w K mg base CX0 7 (He.ga K "_law_many") T.fd_law_many ["shape"] (sp_law_many 6) := ok_law_many T 6
  have b_law_many := b_law_many T
  have G_law_pairs : FnOk P w K mg base CX0 2 (He.ga K "_law_pairs") T.fd_law_pairs ["pot", "many"] sp_law_pairs := ok_law_pairs T
  have b_law_pairs := b_law_pairs T
  have G_law_laid : FnOk P w K mg base CX0 8 (He.ga K "_law_laid") T.fd_law_laid ["pot", "shape", "rest", "pages"] (sp_law_laid 6) := ok_law_laid T 6
  have b_law_laid := b_law_laid T
  have G_law_leaves : FnOk P w K mg base CX0 7 (He.ga K "_law_leaves") T.fd_law_leaves ["pages", "number"] (sp_law_leaves 6) := ok_law_leaves T 6
  have b_law_leaves := b_law_leaves T
  refine T.F_law_tree.ok sc_law_tree (fun vs H Q E h => ?_) (fun cdv A outer st H vs Q E hr h => ?_)
  · obtain ⟨p, room, l, wide, B, rfl, _⟩ := h
    rfl
  · obtain ⟨p, room, l, wide, B, rfl, hl, hr3, hr8, hw, hcs, hp, hB, kq⟩ := h
    refine ⟨_, PSs.nox (pss_cons (ps_set (i := 4) sc_law_tree.nd rfl (Or.inl rfl) (pe_call G_law_shape (hr.mono (by first | decide | omega)) rfl T.g_law_shape T.F_law_shape.kp b_law_shape .nil pass0 (pa_cons (pv 0) (pa_cons (pv 1) (pa_cons (pv 2) (pa_cons pe_bl (pa_cons (pv 3) pa_nil)))))))
 (Evl.pss_cut (ps_set (i := 5) sc_law_tree.nd rfl (Or.inl rfl) (pe_op op_add (pe_call G_law_pages (hr.mono (by first | decide | omega)) rfl T.g_law_pages T.F_law_pages.kp b_law_pages .nil pass0 (pa_cons (pv 4) pa_nil)) (pe_call G_law_take (hr.mono (by first | decide | omega)) rfl T.g_law_take T.F_law_take.kp b_law_take .nil pass0 (pa_cons (pv 0) (pa_cons pe_int pa_nil)))))
 (Evl.pss_cut (ps_set (i := 6) sc_law_tree.nd rfl (Or.inr rfl) (pe_ix ix_list (pe_lst (pa_cons pe_int (pa_cons pe_int (pa_cons (pe_op op_add pe_int (pe_call G_law_take (hr.mono (by first | decide | omega)) rfl T.g_law_take T.F_law_take.kp b_law_take .nil pass0 (pa_cons (pv 0) (pa_cons (pe_op op_fdivW (pe_op op_powW pe_int pe_int) (pv 5)) pa_nil)))) pa_nil)))) (pe_call G_law_take (hr.mono (by first | decide | omega)) rfl T.g_law_take T.F_law_take.kp b_law_take .nil pass0 (pa_cons (pv 0) (pa_cons pe_int pa_nil))) (fun _ _ => rfl)))
 (pss_cons (ps_setLc (i := 8) (own := [("k", 7)]) (g := gName 7) (tt := tYes) rfl sc_law_tree.nd rfl rfl (sw_true rfl rfl rfl (by decide +kernel)) (pi_range2 rfl T.n_range (pa_cons pe_int (pa_cons (pe_op op_add (pv 5) pe_int) pa_nil))) (blkOk_by (own := [("k", 7)]) (N := ["pot", "room", "levels", "wide", "shape", "many", "apart", "k", "left", "numbers", "pages", "root", "leaves", "number", "following"]) (sc := defScope s_law_tree) (by decide +kernel)) (fun _ _ _ _ _ => (pg_name (i := 7) sc_law_tree.nd rfl (Or.inl rfl))) (fun _ _ _ _ _ => pts_nil) (fun _ _ _ _ _ => (pe_op op_mulW (pv 6) (pv 7))))
 (pss_cons (ps_set (i := 9) sc_law_tree.nd rfl (Or.inl rfl) (pe_lst pa_nil))
 (pss_cons (ps_for PassesOwn.never rfl (pi_range1 rfl T.n_range (pa_cons (pe_call G_law_pages (hr.mono (by first | decide | omega)) rfl T.g_law_pages T.F_law_pages.kp b_law_pages .nil pass0 (pa_cons (pv 4) pa_nil)) pa_nil)) (pg_name (i := 7) sc_law_tree.nd rfl (Or.inl rfl))
 (pss_one (ps_expr (pe_bm PySem.F.plainAttrs_list PySem.F.slot_list_append PySem.F.type_list_append mt_append (pv 9) (pa_cons (pe_bm PySem.F.plainAttrs_list PySem.F.slot_list_pop PySem.F.type_list_pop mt_popAt (pv 8) (pa_cons (pe_ix ix_list (pe_lst (pa_cons pe_int (pa_cons (pe_call G_law_take (hr.mono (by first | decide | omega)) rfl T.g_law_take T.F_law_take.kp b_law_take .nil pass0 (pa_cons (pv 0) (pa_cons (pe_callB call_len_seq rfl T.n_len PySem.boot_len (pa_cons (pv 8) pa_nil)) pa_nil))) pa_nil))) (pe_call G_law_take (hr.mono (by first | decide | omega)) rfl T.g_law_take T.F_law_take.kp b_law_take .nil pass0 (pa_cons (pv 0) (pa_cons pe_int pa_nil))) (fun _ _ => rfl)) pa_nil)) pa_nil)))))
 (pss_cons (ps_set (i := 10) sc_law_tree.nd rfl (Or.inl rfl) pe_dnewK)
 (pss_cons (ps_set (i := 11) sc_law_tree.nd rfl (Or.inl rfl) (pe_call G_law_laid (hr.mono (by first | decide | omega)) rfl T.g_law_laid T.F_law_laid.kp b_law_laid .nil pass0 (pa_cons (pv 0) (pa_cons (pv 4) (pa_cons (pe_lst (pa_cons (pe_call G_law_pairs (hr.mono (by first | decide | omega)) rfl T.g_law_pairs T.F_law_pairs.kp b_law_pairs .nil pass0 (pa_cons (pv 0) (pa_cons (pe_call G_law_many (hr.mono (by first | decide | omega)) rfl T.g_law_many T.F_law_many.kp b_law_many .nil pass0 (pa_cons (pv 4) pa_nil)) pa_nil))) (pa_cons (pv 9) (pa_cons (pe_un un_neg pe_int) pa_nil)))) (pa_cons (pv 10) pa_nil))))))
 (pss_cons (ps_set (i := 12) sc_law_tree.nd rfl (Or.inl rfl) (pe_call G_law_leaves (hr.mono (by first | decide | omega)) rfl T.g_law_leaves T.F_law_leaves.kp b_law_leaves .nil pass0 (pa_cons (pv 10) (pa_cons (pv 11) pa_nil))))
 (pss_cons (ps_for PassesOwn.never rfl (pi_zipA rfl T.n_zip (pa_cons (pv 12) (pa_cons (pe_op op_cat (pe_slice sl_list (pv 12) (po_some pe_int) po_none) (pe_lst (pa_cons pe_int pa_nil))) pa_nil))) (pg_tup rfl (pgs_cons (pg_name (i := 13) sc_law_tree.nd rfl (Or.inl rfl)) (pgs_cons (pg_name (i := 14) sc_law_tree.nd rfl (Or.inl rfl)) pgs_nil)))
 (pss_one (ps_dput (hu_of hr) (pv 10) (pv 13) (pe_op op_catA (pe_slice sl_tupA (pe_dget (hu_of hr) (pv 10) (pv 13) (fun _ _ => rfl)) po_none (po_some pe_int)) (pe_tup (pa_cons (pv 14) pa_nil))) rfl)))
 (pss_one (ps_ret (pe_tup (pa_cons (pv 1) (pa_cons (pv 11) (pa_cons (pe_callTy RU.call_tupF rfl T.n_tuple (by decide +kernel) (pa_cons (pe_callB (HS.cr_sortedItK rfl) rfl T.n_sorted (by decide +kernel) (pa_cons (pe_bm0 PySem.F.plainAttrs_dict PySem.F.slot_dict_items PySem.F.type_dict_items HS.mt_itemsK (pv 10)) pa_nil)) pa_nil)) pa_nil)))))))))))))))), ?_⟩
    refine ⟨_, rfl, _, rfl, _, rfl, _, rfl, p, room, l, wide, true, B, rfl, hl, hr3, hr8, hw, hp, by omega, fun H1 sv s b1 hp1 hs1 hwf => ?_⟩
    have hpg := pgs_le hwf
    have hcn := cnt_le hwf
    have hcn2 : cntS l s ≤ 8 * 600 := Nat.le_trans hcn (Nat.mul_le_mul hr8 hcs)
    have hpg1 : 1 ≤ pgsS l s := by cases l <;> (unfold pgsS; omega)
    refine ⟨fun σ' H' => ∃ M : Nat, σ' = [some (.ref p), some (.int (room : Int)), some (.int ((l + 1 : Nat) : Int)), some (.int (wide : Int)), some sv, some (.int (M : Int)), none, none, none, none, none, none, none, none, none] ∧ But p H1 H' ∧ PotOk H' p (B + cS room l + 1) ∧ pgsS l s ≤ M ∧ M ≤ 603, ?_, ?_⟩
    · refine ⟨_, rfl, l, room, true, sv, s, rfl, hl, hr8, hwf, hs1, fun H2 s2 => ?_⟩
      refine ⟨_, rfl, p, 4, _, rfl, by decide, by decide, hp1.same s2, by omega, fun H3 v3 b3 hp3 l3 u3 => ⟨_, _, rfl, rfl, ?_⟩⟩
      refine ⟨pgsS l s + v3.toNat, ?_, (But.of s2).trans b3, hp3, by omega, by omega⟩
      show [some (V.ref p), some (.int (room : Int)), some (.int ((l + 1 : Nat) : Int)), some (.int (wide : Int)), some sv, some (V.int (((pgsS l s : Nat) : Int) + v3)), none, none, none, none, none, none, none, none, none] = _
      rw [show ((pgsS l s : Nat) : Int) + v3 = ((pgsS l s + v3.toNat : Nat) : Int) by omega]
    rintro σ' H3 ⟨M, rfl, b3, hp3, hM1, hM2⟩
    have hs3 := hs1.keep (hp1.keep b3)
    -- apart
    refine ⟨fun σ' H' => ∃ A : Int, σ' = [some (.ref p), some (.int (room : Int)), some (.int ((l + 1 : Nat) : Int)), some (.int (wide : Int)), some sv, some (.int (M : Int)), some (.int A), none, none, none, none, none, none, none, none] ∧ But p H3 H' ∧ PotOk H' p (B + cS room l + 3) ∧ 1 ≤ A ∧ A * M ≤ 1000000, ?_, ?_⟩
    · have d1 : (10 : Int) ^ (6 : Int).toNat / (M : Int) * (M : Int) ≤ 1000000 := by
        rw [show (10 : Int) ^ (6 : Int).toNat = 1000000 by decide]
        exact Int.ediv_mul_le _ (by omega)
      have d2 : 1 ≤ (10 : Int) ^ (6 : Int).toNat / (M : Int) := Int.le_ediv_of_mul_le (by omega) (by rw [show (10 : Int) ^ (6 : Int).toNat = 1000000 by decide]; omega)
      have d3 : (10 : Int) ^ (6 : Int).toNat / (M : Int) ≤ 1000000 := by
        have z := Int.mul_le_mul_of_nonneg_left (by omega : (1 : Int) ≤ (M : Int)) (by omega : 0 ≤ (10 : Int) ^ (6 : Int).toNat / (M : Int))
        rw [Int.mul_one] at z
        omega
      refine ⟨_, rfl, _, _, rfl, rfl, powW_of (a := 4) (by decide) (by decide) (by decide) (by decide), _, rfl, _, _, rfl, rfl, wide_div (b := 60) (by omega) (by omega) (by decide) (by decide), ?_⟩
      refine ⟨p, (10 : Int) ^ (6 : Int).toNat / (M : Int), _, rfl, by omega, by omega, hp3, by omega, fun H4 v4 b4 hp4 l4 u4 => ⟨_, _, rfl, rfl, by show 3 ≤ sizeLine; decide, fun q hq => ?_⟩⟩
      refine ⟨_, rfl, p, 3, _, rfl, by decide, by decide, hp4.new hq, by omega, fun H5 v5 b5 hp5 l5 u5 => ?_⟩
      have npq := hp4.ne hq
      have hq5 : H5 q = some (.lst [.int 1, .int 1, .int (1 + v4)]) := b5 _ _ npq.symm upd_same
      have pick : ∃ v : Int, atI [V.int 1, V.int 1, V.int (1 + v4)] v5 = some (.int v) ∧ 1 ≤ v ∧ v ≤ (10 : Int) ^ (6 : Int).toNat / (M : Int) := by
        rcases (by omega : v5 = 0 ∨ v5 = 1 ∨ v5 = 2) with rfl | rfl | rfl
        · exact ⟨1, rfl, by omega, by omega⟩
        · exact ⟨1, rfl, by omega, by omega⟩
        · exact ⟨1 + v4, rfl, by omega, by omega⟩
      obtain ⟨v, hv, hv1, hv2⟩ := pick
      refine ⟨q, _, _, _, rfl, rfl, SqL.of hq5, hv, v, rfl, fun b o nb z => b5 _ _ nb ?_, hp5.le (by omega), hv1, ?_⟩
      · have z4 := b4 _ _ nb z
        rw [upd_ne (ne_of_none z4 hq)]
        exact z4
      · exact Int.le_trans (Int.mul_le_mul_of_nonneg_right hv2 (by omega)) d1
    rintro σ' H4 ⟨A, rfl, b4, hp4, hA1, hA2⟩
    have hs4 := hs3.keep (hp3.keep b4)
    have hAk : ∀ k : Int, 0 ≤ k → k ≤ M → A * k ≤ 1000000 := fun k h0 h1 => Int.le_trans (Int.mul_le_mul_of_nonneg_left h1 (by omega)) hA2
    have hAm : A ≤ 1000000 := by
      have := hAk 1 (by omega) (by omega)
      omega
    -- left
    refine ⟨_, rfl, _, _, rfl, rfl, 1, (M : Int) + 1, rfl, by omega, fun L hL => ?_⟩
    rw [show ((M : Int) + 1 - 1).toNat = M by omega]
    refine lc_it walk_range (fun i H' => Same H4 H' ∧ H' L = some (.lst (fl i (fun k => A * (1 + (k : Int)))))) ⟨same_new hL, upd_same⟩ (fun _ _ _ _ => trivial) ?_ ?_
    · rintro i x H5 H6 hi ⟨s5, hL5⟩ ⟨rfl, rfl⟩
      refine ⟨rfl, ?_⟩
      dsimp only [tYes]
      rw [if_pos rfl]
      refine ⟨_, rfl, _, rfl, _, _, rfl, rfl, wide_mul (a := 30) (b := 30) (by omega) (by omega) (by decide) (by decide) (by decide), _, hL5, ?_, same_upd s5 hL, ?_⟩
      · rw [fl_len]
        exact Nat.lt_of_le_of_lt (by omega : _ ≤ 100000) (by decide)
      · rw [upd_same, ← fl_snoc]
    rintro H5 ⟨s5, hL5⟩
    -- numbers
    refine ⟨Nat.zero_le _, fun N hN => ?_⟩
    have npL : p ≠ L := hp4.ne hL
    have hp5 : PotOk H5 p (B + cS room l + 3) := hp4.same (Same.trans (fun b o e => e) s5)
    have npN : p ≠ N := hp5.ne hN
    have nLN : L ≠ N := ne_of_none hL5 hN
    obtain ⟨L0, hL0⟩ : ∃ L0 : List Int, L0 = (List.range M).map fun k : Nat => A * (1 + (k : Int)) := ⟨_, rfl⟩
    have hL5' : H5 L = some (.lst (L0.map V.int)) := by
      rw [hL5, hL0, List.map_map]
      rfl
    have nd0 : L0.Nodup := by
      rw [hL0]
      refine List.Pairwise.map _ (fun a b h => ?_) (List.nodup_range (n := M))
      intro e
      have := Int.eq_of_mul_eq_mul_left (by omega : A ≠ 0) e
      omega
    have rg0 : ∀ x ∈ L0, 1 ≤ x ∧ x ≤ 1000000 := fun x hx => by
      rw [hL0] at hx
      obtain ⟨k, hk, rfl⟩ := List.mem_map.mp hx
      have := List.mem_range.mp hk
      refine ⟨?_, hAk _ (by omega) (by omega)⟩
      have z := Int.mul_le_mul hA1 (by omega : (1 : Int) ≤ 1 + (k : Int)) (by omega) (by omega)
      omega
    have len0 : L0.length = M := by rw [hL0, List.length_map, List.length_range]
    have hs5 := hs4.keep (Keep.of (Same.trans (fun b o e => e : Same H4 H4) s5))
    have s6 : Same H5 (upd H5 N (.lst [])) := same_new hN
    have hN6 : upd H5 N (.lst []) N = some (.lst []) := upd_same
    generalize upd H5 N (.lst []) = H6 at s6 hN6
    have hs6 := hs5.keep (Keep.of s6)
    refine ⟨_, rfl, l, room, true, sv, s, rfl, hl, hr8, hwf, hs6, fun H7 s7 => ?_⟩
    refine ⟨_, rfl, by omega, by omega, ?_⟩
    rw [show ((pgsS l s : Nat) : Int).toNat = pgsS l s by omega]
    refine for_range (fun i σ H' => ∃ v7 Ns Lf, σ = [some (.ref p), some (.int (room : Int)), some (.int ((l + 1 : Nat) : Int)), some (.int (wide : Int)), some sv, some (.int (M : Int)), some (.int A), v7, some (.ref L), some (.ref N), none, none, none, none, none] ∧
      But3 p L N H7 H' ∧ PotOk H' p (B + cS room l + 3 + 2 * i) ∧ H' L = some (.lst (Lf.map V.int)) ∧ H' N = some (.lst (Ns.map V.int)) ∧ Ns.length = i ∧ (Ns ++ Lf).Perm L0)
      ⟨none, [], L0, rfl, fun _ _ _ _ _ e => e, by rw [show B + cS room l + 3 + 2 * ((0 : Nat) : Int) = B + cS room l + 3 by omega]; exact (hp5.same s6).same s7, s7 _ _ (s6 _ _ hL5'), s7 _ _ hN6, rfl, List.Perm.refl _⟩ ?_ ?_
    · rintro i σ H8 hi ⟨v7, Ns, Lf, rfl, b8, hp8, hL8, hN8, hNl, hperm⟩
      have hLf : Ns.length + Lf.length = M := by
        have z := hperm.length_eq
        rw [List.length_append] at z
        omega
      refine ⟨_, rfl, .inl ⟨rfl, _, SqL.of hN8⟩, _, rfl, .inl ⟨rfl, _, SqL.of hL8⟩, ?_⟩
      refine ⟨_, rfl, _, rfl, L, _, rfl, .inl (SqL.of hL8), ?_⟩
      rw [List.length_map]
      refine ⟨p, (Lf.length : Int), _, rfl, by omega, by omega, hp8, by omega, fun H9 v9 b9 hp9 l9 u9 => ⟨by show 2 ≤ sizeLine; decide, fun q hq => ?_⟩⟩
      refine ⟨_, rfl, p, 2, _, rfl, by decide, by decide, hp9.new hq, by omega, fun Ha va ba hpa la ua => ?_⟩
      have npq := hp9.ne hq
      have pick : ∃ v : Nat, atI [V.int 0, V.int v9] va = some (.int (v : Int)) ∧ v < Lf.length := by
        rcases (by omega : va = 0 ∨ va = 1) with rfl | rfl
        · exact ⟨0, rfl, by omega⟩
        · exact ⟨v9.toNat, by rw [show ((v9.toNat : Nat) : Int) = v9 by omega]; rfl, by omega⟩
      obtain ⟨v, hv, hvl⟩ := pick
      have hLa : Ha L = some (.lst (Lf.map V.int)) := ba _ _ npL.symm (by
        have z := b9 _ _ npL.symm hL8
        rw [upd_ne (ne_of_none z hq)]
        exact z)
      have hNa : Ha N = some (.lst (Ns.map V.int)) := ba _ _ npN.symm (by
        have z := b9 _ _ npN.symm hN8
        rw [upd_ne (ne_of_none z hq)]
        exact z)
      refine ⟨q, _, _, _, rfl, rfl, SqL.of (ba _ _ npq.symm upd_same), hv, ?_⟩
      refine ⟨L, _, (v : Int), v, .int (Lf[v]'hvl), rfl, rfl, hLa, by omega, by omega, ?_, ?_, ?_⟩
      · rw [List.length_map]
        exact seqk hvl
      · rw [List.getElem?_map, List.getElem?_eq_getElem hvl]
        rfl
      · refine ⟨N, _, _, rfl, rfl, by rw [upd_ne nLN.symm]; exact hNa, ?_, ?_⟩
        · rw [List.length_map]
          exact Nat.lt_of_le_of_lt (by omega : _ ≤ 100000) (by decide)
        refine ⟨_, Ns ++ [Lf[v]'hvl], Lf.eraseIdx v, rfl, fun b o n1 n2 n3 e => ?_, ?_, ?_, ?_, ?_, ?_⟩
        · rw [upd_ne n3, upd_ne n2]
          refine ba _ _ n1 ?_
          have z := b9 _ _ n1 (b8 _ _ n1 n2 n3 e)
          rw [upd_ne (ne_of_none z hq)]
          exact z
        · exact ((hpa.put npL).put npN).le (by omega)
        · rw [upd_ne nLN, upd_same, erase_map]
        · rw [upd_same, List.map_append]
          rfl
        · rw [List.length_append, hNl]
          rfl
        · rw [List.append_assoc]
          exact (List.Perm.append_left Ns (erase_perm hvl)).trans hperm
    rintro σ H8 ⟨v7, Ns, Lf, rfl, b8, hp8, hL8, hN8, hNl, hperm⟩
    have nd1 : Ns.Nodup := ((hperm.nodup_iff.mpr nd0).sublist (List.sublist_append_left Ns Lf))
    have rg1 : ∀ x ∈ Ns, 1 ≤ x ∧ x ≤ 1000000 := fun x hx => rg0 x (hperm.mem_iff.mp (List.mem_append_left _ hx))
    have k8 : Keep H7 H8 := ⟨fun c u tu e => b8 c _ (tpb_no ((hp5.same s6).same s7).noTup tu e) (fun z => by subst z; rw [s7 _ _ (s6 _ _ hL5')] at e; cases e; cases tu) (fun z => by subst z; rw [s7 _ _ hN6] at e; cases e; cases tu) e⟩
    have hs8 := (hs6.keep (Keep.of s7)).keep k8
    have f8 : ∀ b o, b ≠ p → H b = some o → H8 b = some o ∧ b ≠ N := fun b o nb e => by
      have z4 := b4 _ _ nb (b3 _ _ nb (b1 _ _ nb e))
      have z5 := (Same.trans (fun b o e => e : Same H4 H4) s5) _ _ z4
      exact ⟨b8 _ _ nb (ne_of_none z4 hL) (ne_of_none z5 hN) (s7 _ _ (s6 _ _ z5)), ne_of_none z5 hN⟩
    -- the pages
    refine fun d hd => ?_
    have npd := hp8.ne hd
    have nNd := ne_of_none hN8 hd
    have s9 : Same H8 (upd H8 d (.dK [])) := same_new hd
    have hd9 : upd H8 d (.dK []) d = some (.dK []) := upd_same
    generalize upd H8 d (.dK []) = H9 at s9 hd9
    have hp9 := hp8.same s9
    have hs9 := hs8.keep (Keep.of s9)
    refine ⟨_, rfl, _, rfl, _, rfl, _, rfl, l, room, true, sv, s, rfl, hl, hr8, hwf, hs9, fun Ha sa => ?_⟩
    have hpa := hp9.same sa
    refine ⟨p, cntS l s, _, rfl, by omega, hpa, by omega, fun Hb a ps bb hpb ha hps hlen hok _ => ?_⟩
    have hNb : Hb N = some (.lst (Ns.map V.int)) := bb _ _ npN.symm (sa _ _ (s9 _ _ hN8))
    have hdb : Hb d = some (.dK []) := bb _ _ npd.symm (sa _ _ hd9)
    refine ⟨_, rfl, 1, rfl, by show 3 ≤ sizeLine; decide, fun R hR => ⟨_, rfl, ?_⟩⟩
    have npR := hpb.ne hR
    have nNR := ne_of_none hNb hR
    have ndR := ne_of_none hdb hR
    obtain ⟨xs, hxa, hpx⟩ := hps
    have naR := ne_of_none hxa hR
    have sb : Same Hb (upd Hb R (.lst [.ref a, .ref N, .int (-1)])) := same_new hR
    have hRc : upd Hb R (.lst [.ref a, .ref N, .int (-1)]) R = some (.lst [.ref a, .ref N, .int (-1)]) := upd_same
    have hsb := (hs9.keep (Keep.of sa)).keep (hpa.keep bb)
    generalize upd Hb R (.lst [.ref a, .ref N, .int (-1)]) = Hc at sb hRc
    have nad : a ≠ d := fun e => by rw [e, sa _ _ hd9] at ha; cases ha
    have naN : a ≠ N := fun e => by rw [e, sa _ _ (s9 _ _ hN8)] at ha; cases ha
    have nap : a ≠ p := (hpa.ne ha).symm
    have I : LaidIn Hc l room s p R N d ps Ns [] (-1) (B + cS room l + 3 + 2 * (pgsS l s : Nat) + 10 * (cntS l s : Nat) + 10) := by
      refine ⟨hr3, hr8, hpb.same sb, by omega, ⟨a, hRc, ⟨xs, sb _ _ hxa, paired_imp (fun _ _ r => PrAt.keep (Keep.of sb) r) hpx⟩, sb _ _ hNb, nap, naR, naN, nad⟩, ⟨[], sb _ _ hdb, .nil⟩, ⟨npR, npN, npd, nNR.symm, ndR.symm, nNd⟩, hok, ?_, Int.le_refl _, by decide, by omega, by omega, nd1, fun _ _ => rfl, by omega, ?_⟩
      · intro q hq
        have := (hok.2 q hq).1
        omega
      · show 0 + Ns.length ≤ 100000
        omega
    refine ⟨l, room, true, sv, s, p, R, N, d, ps, Ns, [], -1, _, rfl, hl, hwf, hsb.keep (Keep.of sb), I, fun Hd t D last' bd hpd hrd hdd g => ?_⟩
    have hns : nums l t = Ns := by rw [g.number, List.take_of_length_le (by omega)]
    have hprs : prs l t = ps := by rw [g.pairs, List.take_of_length_le (by omega)]
    have hdd : DctAt Hd d D := hdd
    have laidD : Laid D l t := g.laid
    -- the leaves
    have hLl : (lvs l t).length ≤ 603 := by
      have z := lvs_len (l := l) (t := t)
      rw [hns] at z
      omega
    refine ⟨_, rfl, _, rfl, l, t, d, D, rfl, hl, hdd, laidD, by omega, fun He b se hb hbe => ?_⟩
    refine ⟨_, rfl, _, rfl, 1, rfl, b, _, rfl, SqL.of hbe, fun q1 hq1 => ?_⟩
    have ecut : cutV ((lvs l t).map V.int) (some 1) none = ((lvs l t).drop 1).map V.int := by
      rw [List.map_drop]
      exact cut_from' (n := 1)
    rw [ecut]
    refine ⟨by show 1 ≤ sizeLine; decide, fun q2 hq2 => ?_⟩
    have n12 : q1 ≠ q2 := ne_of_none (upd_same : upd He q1 (.lst (((lvs l t).drop 1).map V.int)) q1 = _) hq2
    refine ⟨q1, q2, _, _, rfl, rfl, by rw [upd_ne n12]; exact upd_same, upd_same, ?_, fun q3 hq3 => ?_⟩
    · rw [List.length_map, List.length_drop]
      exact Nat.le_trans (by show _ + 1 ≤ 100000; omega) (by decide)
    have e3 : (((lvs l t).drop 1).map V.int ++ [V.int 0]) = ((lvs l t).drop 1 ++ [0]).map V.int := by rw [List.map_append]; rfl
    rw [e3]
    have sf : Same He (upd (upd (upd He q1 (.lst (((lvs l t).drop 1).map V.int))) q2 (.lst [.int 0])) q3 (.lst (((lvs l t).drop 1 ++ [0]).map V.int))) := ((same_new hq1).trans (same_new hq2)).trans (same_new hq3)
    have hq3f : upd (upd (upd He q1 (.lst (((lvs l t).drop 1).map V.int))) q2 (.lst [.int 0])) q3 (.lst (((lvs l t).drop 1 ++ [0]).map V.int)) q3 = some (.lst (((lvs l t).drop 1 ++ [0]).map V.int)) := upd_same
    generalize upd (upd (upd He q1 (.lst (((lvs l t).drop 1).map V.int))) q2 (.lst [.int 0])) q3 (.lst (((lvs l t).drop 1 ++ [0]).map V.int)) = Hf at sf hq3f
    have hbf := sf _ _ hbe
    refine ⟨b, q3, _, _, rfl, .inl ⟨SqL.of hbf, SqL.of hq3f, ?_⟩⟩
    have hdf : DctAt Hf d D := hdd.same (se.trans sf)
    have nbd : b ≠ d := fun e => by
      obtain ⟨es, h1, _⟩ := hdf
      rw [← e, hbf] at h1
      cases h1
    have n3d : q3 ≠ d := fun e => by
      obtain ⟨es, h1, _⟩ := hdf
      rw [← e, hq3f] at h1
      cases h1
    have len1 : ((lvs l t).map V.int).length = (lvs l t).length := List.length_map ..
    have lz : (lvs l t).length = min ((lvs l t).map V.int).length (((lvs l t).drop 1 ++ [0]).map V.int).length := by
      rw [List.length_map, List.length_map, List.length_append, List.length_drop]
      show _ = min _ (_ - 1 + 1)
      omega
    have ndl : (lvs l t).Nodup := (by rw [hns]; exact nd1 : (nums l t).Nodup).sublist lvs_sub
    have dfew : D.length ≤ 603 := by
      have z := g.keys.length_eq
      rw [List.length_map, hns] at z
      omega
    refine for_it (walk_zip lz) (fun i σ H' => ∃ v13 v14 D', σ = [some (.ref p), some (.int (room : Int)), some (.int ((l + 1 : Nat) : Int)), some (.int (wide : Int)), some sv, some (.int (M : Int)), some (.int A), v7, some (.ref L), some (.ref N), some (.ref d), some (.int (num l t)), some (.ref b), v13, v14] ∧
      But d Hf H' ∧ DctAt H' d D' ∧ D'.map (·.1) = D.map (·.1) ∧ Laid D' l t ∧ NextOk D' (lvs l t) i) ⟨none, none, D, rfl, But.refl d Hf, hdf, rfl, laidD, fun j n hj => by omega⟩ (fun i σ H' _ z => ?_) ?_ ?_
    · obtain ⟨_, _, _, _, b', _⟩ := z
      exact ⟨SqL.of (b' _ _ nbd hbf), SqL.of (b' _ _ n3d hq3f)⟩
    · rintro i x σ Hg Hh hi ⟨v13, v14, D', rfl, bg, hdg, ek, lD, nxt⟩ ⟨tz, x1, x2, rfl, htz, rfl, e1, e2⟩
      obtain ⟨n, hn, rfl⟩ := map_at e1
      obtain ⟨f, hf, rfl⟩ := map_at e2
      rw [foll hi] at hf
      obtain rfl := Option.some.inj hf
      refine ⟨tz, _, rfl, SqT.of upd_same, rfl, _, _, rfl, _, _, rfl, rfl, ?_⟩
      have sg : Same Hg (upd Hg tz (.tup [.int n, .int ((lvs l t)[i + 1]?.getD 0)])) := same_new htz
      generalize upd Hg tz (.tup [.int n, .int ((lvs l t)[i + 1]?.getD 0)]) = Hh at sg
      obtain ⟨pp, nx, hlk⟩ := lvs_leaf lD (List.mem_of_getElem? hn)
      obtain ⟨v, hv, t1, qp, rfl, ht1, hqp⟩ := (hdg.same sg).get hlk
      refine ⟨_, rfl, _, rfl, d, _, rfl, hv, 2, rfl, t1, _, rfl, SqT.of ht1, (fun h => absurd (show (2 : Nat) = 3 from h.2) (by decide)), fun _ q4 hq4 => ?_⟩
      have ec : cutV [V.str "leaf", .ref qp, .int nx] none (some 2) = [V.str "leaf", .ref qp] := rfl
      refine ⟨_, rfl, by show 1 ≤ sizeLine; decide, fun q5 hq5 => ?_⟩
      have n45 := ne_of_none (upd_same : upd Hh q4 (.tup (cutV [V.str "leaf", .ref qp, .int nx] none (some 2))) q4 = _) hq5
      refine ⟨q4, q5, _, _, rfl, rfl, SqT.of (by rw [upd_ne n45]; exact upd_same), SqT.of upd_same, by show (3 : Nat) ≤ sizeLine; decide, (fun e => by cases e), (fun _ e => by cases e), fun _ _ q6 hq6 => ?_⟩
      have s6 : Same Hh (upd (upd (upd Hh q4 (.tup (cutV [V.str "leaf", .ref qp, .int nx] none (some 2)))) q5 (.tup [.int ((lvs l t)[i + 1]?.getD 0)])) q6 (.tup (cutV [V.str "leaf", .ref qp, .int nx] none (some 2) ++ [.int ((lvs l t)[i + 1]?.getD 0)]))) := ((same_new hq4).trans (same_new hq5)).trans (same_new hq6)
      have hq66 : upd (upd (upd Hh q4 (.tup (cutV [V.str "leaf", .ref qp, .int nx] none (some 2)))) q5 (.tup [.int ((lvs l t)[i + 1]?.getD 0)])) q6 (.tup (cutV [V.str "leaf", .ref qp, .int nx] none (some 2) ++ [.int ((lvs l t)[i + 1]?.getD 0)])) q6 = some (.tup [.str "leaf", .ref qp, .int ((lvs l t)[i + 1]?.getD 0)]) := upd_same
      generalize upd (upd (upd Hh q4 (.tup (cutV [V.str "leaf", .ref qp, .int nx] none (some 2)))) q5 (.tup [.int ((lvs l t)[i + 1]?.getD 0)])) q6 (.tup (cutV [V.str "leaf", .ref qp, .int nx] none (some 2) ++ [.int ((lvs l t)[i + 1]?.getD 0)])) = Hi at s6 hq66
      obtain ⟨es, hdi, hde⟩ := (hdg.same sg).same s6
      have nl := Paired.length hde
      have nl2 := congrArg List.length ek
      rw [List.length_map, List.length_map] at nl2
      refine ⟨_, rfl, _, rfl, d, _, rfl, DPut.k (k := .inl n) hdi ?_, ?_⟩
      · exact Nat.lt_of_le_of_lt (by omega : es.length ≤ 100000) (by decide)
      have ki : Keep Hi (upd Hi d (.dK (putK es (.inl n) (.ref q6)))) := (Keep.refl Hi).upd fun ys e => by rw [hdi] at e; cases e; rfl
      have pg6 : PgAt (upd Hi d (.dK (putK es (.inl n) (.ref q6)))) (.ref q6) (.leaf pp ((lvs l t)[i + 1]?.getD 0)) := ⟨q6, qp, rfl, ki _ _ hq66, (hqp.keep (Keep.of s6)).keep ki⟩
      refine ⟨_, _, setp D' n (.leaf pp ((lvs l t)[i + 1]?.getD 0)), rfl, (bg.trans (But.of (sg.trans s6))).upd, ⟨_, upd_same, ?_⟩, by rw [setp_keys]; exact ek, lD.setp hlk, nxt.step ndl hn hlk⟩
      have epk := putK_old (v := V.ref q6) hde hlk
      refine (congrArg (fun y => Paired (EnAt (upd Hi d (.dK (putK es (.inl n) (.ref q6))))) y (setp D' n (.leaf pp ((lvs l t)[i + 1]?.getD 0)))) epk).mpr ?_
      exact DctAt.set (k := n) pg6 (paired_imp (fun _ _ (r : EnAt Hi _ _) => (⟨r.1, r.2.keep ki⟩ : EnAt _ _ _)) hde)
    · rintro σ Hg ⟨v13, v14, D', rfl, bg, hdg, ek, lD, nxt⟩
      obtain ⟨es, hdg1, hde⟩ := hdg
      obtain ⟨ks, rfl, hks⟩ := dct_keys hde
      refine ⟨_, rfl, _, rfl, _, rfl, .inr (.inr (.inl ⟨rfl, .inl ⟨_, hdg1⟩⟩)), d, _, rfl, rfl, hdg1, fun q hq => ?_⟩
      refine ⟨q, d, ks, rfl, upd_same, same_new hq _ _ hdg1, fun Hk z ps' sk hz hperm' hsort hzl hzt => ?_⟩
      refine ⟨z, _, rfl, SqL.of hzl, fun z2 o2 hz2 ho2 => ⟨by show 3 ≤ sizeLine; decide, fun r hr => ?_⟩⟩
      obtain ⟨S, hS, hSp⟩ := paired_perm hperm' hks
      have ndD : (D'.map (·.1)).Nodup := by
        rw [ek]
        exact g.keys.nodup_iff.mpr (by rw [hns]; exact nd1)
      have sgk : Same Hg Hk := fun b o e => sk b o (by rw [upd_ne (ne_of_none e hq)]; exact e)
      have skz : Same Hk (upd (upd Hk z2 (.frz o2 (.tup (ps'.map fun z => V.ref z.1)))) r (.tup [.int (room : Int), .int (num l t), .ref z2])) := (same_new hz2).trans (same_new hr)
      have n2r : z2 ≠ r := ne_of_none (upd_same : upd Hk z2 (.frz o2 (.tup (ps'.map fun z => V.ref z.1))) z2 = _) hr
      have hz2' : upd (upd Hk z2 (.frz o2 (.tup (ps'.map fun z => V.ref z.1)))) r (.tup [.int (room : Int), .int (num l t), .ref z2]) z2 = some (.frz o2 (.tup (ps'.map fun z => V.ref z.1))) := by rw [upd_ne n2r]; exact upd_same
      refine kq _ (.ref r) t S (fun c o nc e => ?_) ?_ ?_ ?_
      · obtain ⟨z8, nN⟩ := f8 c o nc e
        have z9 := s9 _ _ z8
        have zb := bb _ _ nc (sa _ _ z9)
        have zd := bd _ _ nc (ne_of_none zb hR) nN (ne_of_none z8 hd) (sb _ _ zb)
        exact skz _ _ (sgk _ _ (bg _ _ (ne_of_none z8 hd) (sf _ _ (se _ _ zd))))
      · obtain ⟨x, y, c, h1, rr⟩ := (hpd.same se).same sf
        exact PotOk.le ⟨x, y, c, skz _ _ (sgk _ _ (bg _ _ npd h1)), rr⟩ (by omega)
      · refine ⟨hr3, hr8, by rw [g.shape]; exact hwf, by rw [hns]; exact nd1, by rw [hns]; exact rg1, ?_, ?_, lD.congr fun k => lkp_perm ndD hS k, fun j n hj hn => ?_, ?_, g.keyOk, by rw [hprs]; exact hok.1, by rw [hprs]; exact hok.2, by rw [hns]; omega⟩
        · have z := (hS.map (·.1))
          rw [ek] at z
          exact z.trans g.keys
        · have z : (S.map (·.1)).Pairwise (· < ·) := by
            rw [← keys_eq hSp, List.map_map]
            exact List.pairwise_map.mpr ((List.pairwise_map (f := fun z : Addr × Int × Addr => z.2) (R := fun e f : Int × Addr => e.1 < f.1)).mp hsort)
          exact List.pairwise_map.mp z
        · obtain ⟨pp, h⟩ := nxt j n hj hn
          exact ⟨pp, (lkp_perm ndD hS n).trans h⟩
        · refine g.keyB 0 1000000001 fun q hq => ?_
          have := hok.2 q (List.mem_of_mem_take hq)
          exact ⟨this.1, by omega⟩
      · exact ⟨r, z2, o2, _, rfl, upd_same, hz2', ho2, num_paired (Keep.of (sgk.trans skz)) hSp fun z hz => skz _ _ (hzt z hz)⟩
end
end K12

namespace K12
open PySem PySem.Spec PyProof.Rows L2 RZ HX TR
def Pg.isLeaf : Pg → Bool
  | .leaf _ _ => true
  | .node _ _ => false
def GoodPr (q : Int × Int) : Prop := 0 ≤ q.1 ∧ q.1 ≤ 1000000000 ∧ 0 ≤ q.2 ∧ q.2 ≤ 1000000000
def PgOk : Pg → Prop
  | .leaf ps nx => (∀ q ∈ ps, GoodPr q) ∧ ps.Pairwise (fun a b => a.1 < b.1) ∧ 0 ≤ nx ∧ nx ≤ 1000000 ∧ ps.length ≤ 1000
  | .node ks kids => ks.Pairwise (· < ·) ∧ (∀ k ∈ ks, 0 ≤ k ∧ k ≤ 1000000000) ∧ (∀ k ∈ kids, 1 ≤ k ∧ k ≤ 1000000) ∧ ks.length + 1 = kids.length ∧ kids.length ≤ 1000
theorem all_true {α : Type} (xs : List α) : (xs.map fun _ => true).all id = true := by
  rw [List.all_map]
  exact List.all_eq_true.mpr fun _ _ => rfl
theorem rep_true (n : Nat) : (List.replicate n true).all id = true := by
  refine List.all_eq_true.mpr fun x hx => ?_
  rw [(List.mem_replicate.mp hx).2]
  rfl
theorem rep_snoc (n : Nat) : (List.replicate n true).map V.bl ++ [V.bl true] = (List.replicate (n + 1) true).map V.bl := by
  rw [List.replicate_succ', List.map_append]
  rfl
section
variable {P : Program} {w : World} {K : PySem.W.Frag} {mg : Str → Option Value} {base : Heap}
def sp_is_whole : Sp := fun vs H Q _ => ∃ i : Int, vs = [.int i] ∧ Q (.bl true) H
theorem ok_is_whole (T : TX K mg) : FnOk P w K mg base CX0 1 (He.ga K "is_whole") T.fd_is_whole ["thing"] sp_is_whole := by
  refine T.F_is_whole.ok sc_is_whole (fun vs H Q E h => ?_) (fun cdv A outer st H vs Q E hr h => ?_)
  · obtain ⟨i, rfl, _⟩ := h
    rfl
  · obtain ⟨i, rfl, kq⟩ := h
    refine ⟨_, PSs.nox (pss_one (ps_ret (pe_and (pe_callB call_isi rfl T.n_isinstance (by decide +kernel) (pa_cons (pv 0) (pa_cons (pe_ty "int" T.n_int (by decide +kernel)) pa_nil))) (pe_one (pe_not (pe_callB call_isi rfl T.n_isinstance (by decide +kernel) (pa_cons (pv 0) (pa_cons (pe_ty "bool" T.n_bool (by decide +kernel)) pa_nil)))))))), ?_⟩
    refine ⟨_, rfl, _, _, .type "int", .type "int", true, rfl, .ty "int", .base (.int _), kit_ty (by decide +kernel), true, rfl, ?_⟩
    refine iteT ?_
    exact ⟨_, rfl, _, _, .type "int", .type "bool", false, rfl, .ty "bool", .base (.int _), kit_ty (by decide +kernel), _, rfl, kq⟩
def sp_is_between : Sp := fun vs H Q _ => ∃ i a b : Int, vs = [.int i, .int a, .int b] ∧ Q (.bl (decide (a ≤ i) && decide (i ≤ b))) H
theorem ok_is_between (T : TX K mg) : FnOk P w K mg base CX0 2 (He.ga K "is_between") T.fd_is_between ["thing", "low", "high"] sp_is_between := by
  have G_is_whole : FnOk P w K mg base CX0 1 (He.ga K "is_whole") T.fd_is_whole ["thing"] sp_is_whole := ok_is_whole T
  have b_is_whole := b_is_whole T
  refine T.F_is_between.ok sc_is_between (fun vs H Q E h => ?_) (fun cdv A outer st H vs Q E hr h => ?_)
  · obtain ⟨i, a, b, rfl, _⟩ := h
    rfl
  · obtain ⟨i, a, b, rfl, kq⟩ := h
    refine ⟨_, PSs.nox (pss_one (ps_ret (pe_and (pe_call G_is_whole (hr.mono (by first | decide | omega)) rfl T.g_is_whole T.F_is_whole.kp b_is_whole .nil pass0 (pa_cons (pv 0) pa_nil)) (pe_one (pe_chain op_le op_le (pv 1) (pv 0) (pv 2)))))), ?_⟩
    refine ⟨_, rfl, i, rfl, true, rfl, ?_⟩
    refine iteT ?_
    refine ⟨_, rfl, _, rfl, _, _, rfl, rfl, _, rfl, ?_⟩
    cases c : decide (a ≤ i) with
    | true =>
      rw [c] at kq
      exact iteT ⟨_, rfl, _, _, rfl, rfl, kq⟩
    | false =>
      rw [c] at kq
      exact iteF kq
def sp_is_row : Sp := fun vs H Q _ => ∃ (a : Addr) (xs : List V) (n : Int), vs = [.ref a, .int n] ∧ H a = some (.tup xs) ∧ Q (.bl (decide ((xs.length : Int) = n))) H
theorem ok_is_row (T : TX K mg) : FnOk P w K mg base CX0 1 (He.ga K "is_row") T.fd_is_row ["thing", "many"] sp_is_row := by
  refine T.F_is_row.ok sc_is_row (fun vs H Q E h => ?_) (fun cdv A outer st H vs Q E hr h => ?_)
  · obtain ⟨a, xs, n, rfl, _⟩ := h
    rfl
  · obtain ⟨a, xs, n, rfl, ha, kq⟩ := h
    refine ⟨_, PSs.nox (pss_one (ps_ret (pe_and (pe_callB call_isi rfl T.n_isinstance (by decide +kernel) (pa_cons (pv 0) (pa_cons (pe_ty "tuple" T.n_tuple (by decide +kernel)) pa_nil))) (pe_one (pe_cmpR op_eq (pe_callB call_len_seq rfl T.n_len PySem.boot_len (pa_cons (pv 0) pa_nil)) (pv 1) (nomark _)))))), ?_⟩
    refine ⟨_, rfl, _, _, .type "tuple", .type "tuple", true, rfl, .ty "tuple", .base (.tup ha), kit_ty (by decide +kernel), true, rfl, ?_⟩
    refine iteT ?_
    refine ⟨_, rfl, a, _, rfl, .inr (SqT.of ha), _, rfl, rfl, ?_⟩
    have e : decide (V.int (xs.length : Int) = V.int n) = decide ((xs.length : Int) = n) := by
      by_cases c : (xs.length : Int) = n
      · rw [c]
        simp
      · rw [decide_eq_false c]
        exact decide_eq_false fun z => c (by injection z)
    rw [e]
    exact kq
def sp_rng (lo hi : Int) : Sp := fun vs H Q _ => ∃ i : Int, vs = [.int i] ∧ Q (.bl (decide (lo ≤ i) && decide (i ≤ hi))) H
theorem ok_is_key (T : TX K mg) : FnOk P w K mg base CX0 3 (He.ga K "is_key") T.fd_is_key ["thing"] (sp_rng 0 1000000000) := by
  have G_is_between : FnOk P w K mg base CX0 2 (He.ga K "is_between") T.fd_is_between ["thing", "low", "high"] sp_is_between := ok_is_between T
  have b_is_between := b_is_between T
  refine T.F_is_key.ok sc_is_key (fun vs H Q E h => ?_) (fun cdv A outer st H vs Q E hr h => ?_)
  · obtain ⟨i, rfl, _⟩ := h
    rfl
  · obtain ⟨i, rfl, kq⟩ := h
    exact ⟨_, PSs.nox (pss_one (ps_ret (pe_call G_is_between (hr.mono (by first | decide | omega)) rfl T.g_is_between T.F_is_between.kp b_is_between .nil pass0 (pa_cons (pv 0) (pa_cons pe_int (pa_cons (pe_gint T.g_GREATEST) pa_nil)))))), _, rfl, i, 0, 1000000000, rfl, kq⟩
theorem ok_is_value (T : TX K mg) : FnOk P w K mg base CX0 3 (He.ga K "is_value") T.fd_is_value ["thing"] (sp_rng 0 1000000000) := by
  have G_is_between : FnOk P w K mg base CX0 2 (He.ga K "is_between") T.fd_is_between ["thing", "low", "high"] sp_is_between := ok_is_between T
  have b_is_between := b_is_between T
  refine T.F_is_value.ok sc_is_value (fun vs H Q E h => ?_) (fun cdv A outer st H vs Q E hr h => ?_)
  · obtain ⟨i, rfl, _⟩ := h
    rfl
  · obtain ⟨i, rfl, kq⟩ := h
    exact ⟨_, PSs.nox (pss_one (ps_ret (pe_call G_is_between (hr.mono (by first | decide | omega)) rfl T.g_is_between T.F_is_between.kp b_is_between .nil pass0 (pa_cons (pv 0) (pa_cons pe_int (pa_cons (pe_gint T.g_GREATEST) pa_nil)))))), _, rfl, i, 0, 1000000000, rfl, kq⟩
theorem ok_is_room (T : TX K mg) : FnOk P w K mg base CX0 3 (He.ga K "is_room") T.fd_is_room ["thing"] (sp_rng 3 8) := by
  have G_is_between : FnOk P w K mg base CX0 2 (He.ga K "is_between") T.fd_is_between ["thing", "low", "high"] sp_is_between := ok_is_between T
  have b_is_between := b_is_between T
  refine T.F_is_room.ok sc_is_room (fun vs H Q E h => ?_) (fun cdv A outer st H vs Q E hr h => ?_)
  · obtain ⟨i, rfl, _⟩ := h
    rfl
  · obtain ⟨i, rfl, kq⟩ := h
    exact ⟨_, PSs.nox (pss_one (ps_ret (pe_call G_is_between (hr.mono (by first | decide | omega)) rfl T.g_is_between T.F_is_between.kp b_is_between .nil pass0 (pa_cons (pv 0) (pa_cons (pe_gint T.g_LEAST_ROOM) (pa_cons (pe_gint T.g_GREATEST_ROOM) pa_nil)))))), _, rfl, i, 3, 8, rfl, kq⟩
theorem ok_is_page_number (T : TX K mg) : FnOk P w K mg base CX0 3 (He.ga K "is_page_number") T.fd_is_page_number ["thing"] (sp_rng 1 1000000) := by
  have G_is_between : FnOk P w K mg base CX0 2 (He.ga K "is_between") T.fd_is_between ["thing", "low", "high"] sp_is_between := ok_is_between T
  have b_is_between := b_is_between T
  refine T.F_is_page_number.ok sc_is_page_number (fun vs H Q E h => ?_) (fun cdv A outer st H vs Q E hr h => ?_)
  · obtain ⟨i, rfl, _⟩ := h
    rfl
  · obtain ⟨i, rfl, kq⟩ := h
    exact ⟨_, PSs.nox (pss_one (ps_ret (pe_call G_is_between (hr.mono (by first | decide | omega)) rfl T.g_is_between T.F_is_between.kp b_is_between .nil pass0 (pa_cons (pv 0) (pa_cons pe_int (pa_cons (pe_gint T.g_LAST_PAGE) pa_nil)))))), _, rfl, i, 1, 1000000, rfl, kq⟩
def sp_half_of : Sp := fun vs H Q _ => ∃ n : Nat, vs = [.int (n : Int)] ∧ Q (.int (((n + 1) / 2 : Nat) : Int)) H
theorem ok_half_of (T : TX K mg) : FnOk P w K mg base CX0 1 (He.ga K "half_of") T.fd_half_of ["room"] sp_half_of := by
  refine T.F_half_of.ok sc_half_of (fun vs H Q E h => ?_) (fun cdv A outer st H vs Q E hr h => ?_)
  · obtain ⟨n, rfl, _⟩ := h
    rfl
  · obtain ⟨n, rfl, kq⟩ := h
    refine ⟨_, PSs.nox (pss_one (ps_ret (pe_op op_fdivW (pe_op op_add (pv 0) pe_int) pe_int))), _, rfl, _, _, rfl, rfl, _, _, rfl, rfl, ⟨by decide, by decide⟩, ?_⟩
    have e : (((n + 1) / 2 : Nat) : Int) = ((n : Int) + 1) / 2 := by omega
    rw [e] at kq
    exact kq
def sp_is_pair : Sp := fun vs H Q _ => ∃ (x : V) (q : Int × Int), vs = [x] ∧ PrAt H x q ∧ GoodPr q ∧ Q (.bl true) H
theorem ok_is_pair (T : TX K mg) : FnOk P w K mg base CX0 4 (He.ga K "is_pair") T.fd_is_pair ["thing"] sp_is_pair := by
  have G_is_row : FnOk P w K mg base CX0 1 (He.ga K "is_row") T.fd_is_row ["thing", "many"] sp_is_row := ok_is_row T
  have b_is_row := b_is_row T
  have G_is_key : FnOk P w K mg base CX0 3 (He.ga K "is_key") T.fd_is_key ["thing"] (sp_rng 0 1000000000) := ok_is_key T
  have b_is_key := b_is_key T
  have G_is_value : FnOk P w K mg base CX0 3 (He.ga K "is_value") T.fd_is_value ["thing"] (sp_rng 0 1000000000) := ok_is_value T
  have b_is_value := b_is_value T
  refine T.F_is_pair.ok sc_is_pair (fun vs H Q E h => ?_) (fun cdv A outer st H vs Q E hr h => ?_)
  · obtain ⟨x, q, rfl, _⟩ := h
    rfl
  · obtain ⟨x, q, rfl, ⟨t, rfl, ht⟩, ⟨g1, g2, g3, g4⟩, kq⟩ := h
    refine ⟨_, PSs.nox (pss_one (ps_ret (pe_and (pe_call G_is_row (hr.mono (by first | decide | omega)) rfl T.g_is_row T.F_is_row.kp b_is_row .nil pass0 (pa_cons (pv 0) (pa_cons pe_int pa_nil))) (pe_and (pe_call G_is_key (hr.mono (by first | decide | omega)) rfl T.g_is_key T.F_is_key.kp b_is_key .nil pass0 (pa_cons (pe_ix ix_tup (pv 0) pe_int (fun _ _ => rfl)) pa_nil)) (pe_one (pe_call G_is_value (hr.mono (by first | decide | omega)) rfl T.g_is_value T.F_is_value.kp b_is_value .nil pass0 (pa_cons (pe_ix ix_tup (pv 0) pe_int (fun _ _ => rfl)) pa_nil))))))), ?_⟩
    refine ⟨_, rfl, t, _, _, rfl, ht, true, rfl, iteT ?_⟩
    refine ⟨_, rfl, t, _, _, _, rfl, rfl, SqT.of ht, rfl, q.1, rfl, ?_⟩
    rw [decide_eq_true g1, decide_eq_true g2]
    refine ⟨true, rfl, iteT ?_⟩
    refine ⟨_, rfl, t, _, _, _, rfl, rfl, SqT.of ht, rfl, q.2, rfl, ?_⟩
    rw [decide_eq_true g3, decide_eq_true g4]
    exact kq
end
end K12

namespace K12
open PySem PySem.Spec PyProof.Rows L2 RZ HX TR
theorem drop1 {xs : List V} (h : xs ≠ []) : ¬ (HT.sIx xs.length 0 (some 1) = 0 ∧ HT.sIx xs.length xs.length none = xs.length) := fun z => by
  have e : HT.sIx xs.length 0 (some ((1 : Nat) : Int)) = min 1 xs.length := HT.sIx_nat _ _ _
  have : xs.length ≠ 0 := fun q => h (List.eq_nil_of_length_eq_zero q)
  have z1 : HT.sIx xs.length 0 (some ((1 : Nat) : Int)) = 0 := z.1
  omega
section
variable {P : Program} {w : World} {K : PySem.W.Frag} {mg : Str → Option Value} {base : Heap}
def sp_are_pairs : Sp := fun vs H Q _ => ∃ (a : Addr) (ps : List (Int × Int)), vs = [.ref a] ∧ PrT H a ps ∧ (∀ q ∈ ps, GoodPr q) ∧ ps.length ≤ 1000 ∧ ∀ H', Same H H' → Q (.bl true) H'
theorem ok_are_pairs (T : TX K mg) : FnOk P w K mg base CX0 5 (He.ga K "are_pairs") T.fd_are_pairs ["thing"] sp_are_pairs := by
  have G_is_pair : FnOk P w K mg base CX0 4 (He.ga K "is_pair") T.fd_is_pair ["thing"] sp_is_pair := ok_is_pair T
  have b_is_pair := b_is_pair T
  refine T.F_are_pairs.ok sc_are_pairs (fun vs H Q E h => ?_) (fun cdv A outer st H vs Q E hr h => ?_)
  · obtain ⟨a, ps, rfl, _⟩ := h
    rfl
  · obtain ⟨a, ps, rfl, ⟨xs, ha, hp⟩, hg, hl, kq⟩ := h
    refine ⟨_, PSs.nox (pss_one (ps_ret (pe_and (pe_callB call_isi rfl T.n_isinstance (by decide +kernel) (pa_cons (pv 0) (pa_cons (pe_ty "tuple" T.n_tuple (by decide +kernel)) pa_nil))) (pe_one (pe_callB (cr_all rfl) rfl T.n_all (by decide +kernel) (pa_cons (pe_lc (own := [("pair", 1)]) (g := gName 1) (tt := tYes) rfl sc_are_pairs.nd (pi_tup (pv 0)) (blkOk_by (own := [("pair", 1)]) (N := ["thing", "pair"]) (sc := defScope s_are_pairs) (by decide +kernel)) (fun _ _ _ _ _ => (pg_name (i := 1) sc_are_pairs.nd rfl (Or.inl rfl))) (fun _ _ _ _ _ => pts_nil) (fun _ _ _ _ _ => (pe_call G_is_pair (hr.mono (by first | decide | omega)) rfl T.g_is_pair T.F_is_pair.kp b_is_pair .nil pass0 (pa_cons (pv 1) pa_nil)))) pa_nil)))))), ?_⟩
    refine ⟨_, rfl, _, _, .type "tuple", .type "tuple", true, rfl, .ty "tuple", ha.ty, kit_ty (by decide +kernel), true, rfl, iteT ?_⟩
    refine ⟨_, rfl, a, rfl, ⟨xs, ha.sq⟩, fun D hD => ?_⟩
    have hxl := Paired.length hp
    refine lc_it walk_tup (fun i H' => Same H H' ∧ H' D = some (.lst ((List.replicate i true).map V.bl))) ⟨same_new hD, upd_same⟩ (fun i H' _ z => (ha.same z.1).sq) ?_ ?_
    · rintro i x H3 H4 hi ⟨s3, hD3⟩ ⟨rfl, hx⟩
      obtain ⟨q, hq, hxq⟩ := pget1 hp hx
      refine ⟨rfl, ?_⟩
      dsimp only [tYes]
      rw [if_pos rfl]
      refine ⟨_, rfl, x, q, rfl, hxq.keep (Keep.of s3), hg q (List.mem_of_getElem? hq), _, hD3, ?_, same_upd s3 hD, ?_⟩
      · rw [List.length_map, List.length_replicate]
        exact Nat.lt_of_le_of_lt (by omega : i ≤ 1000) (by decide)
      · rw [upd_same, rep_snoc]
    · rintro H3 ⟨s3, hD3⟩
      refine ⟨D, _, rfl, SqL.of hD3, ?_⟩
      rw [rep_true]
      exact kq H3 s3
def sp_are_rising : Sp := fun vs H Q _ => ∃ (a : Addr) (ns : List Int), vs = [.ref a] ∧ (H a = some (.lst (ns.map V.int)) ∨ H a = some (.tup (ns.map V.int))) ∧ ns.Pairwise (· < ·) ∧ ns.length ≤ 1000 ∧ ∀ H', Same H H' → Q (.bl true) H'
theorem rise_at {ns : List Int} (h : ns.Pairwise (· < ·)) {i : Nat} {x y : V} (e1 : (ns.map V.int)[i]? = some x) (e2 : ((ns.map V.int).drop 1)[i]? = some y) : ∃ a b : Int, x = .int a ∧ y = .int b ∧ a < b := by
  obtain ⟨a, ha, rfl⟩ := map_at e1
  rw [← List.map_drop] at e2
  obtain ⟨b, hb, rfl⟩ := map_at e2
  rw [List.getElem?_drop] at hb
  obtain ⟨h1, h2⟩ := List.getElem?_eq_some_iff.mp ha
  obtain ⟨h3, h4⟩ := List.getElem?_eq_some_iff.mp hb
  exact ⟨a, b, rfl, rfl, by rw [← h2, ← h4]; exact List.pairwise_iff_getElem.mp h _ _ h1 h3 (by omega)⟩
theorem ok_are_rising (T : TX K mg) : FnOk P w K mg base CX0 1 (He.ga K "are_rising") T.fd_are_rising ["things"] sp_are_rising := by
  refine T.F_are_rising.ok sc_are_rising (fun vs H Q E h => ?_) (fun cdv A outer st H vs Q E hr h => ?_)
  · obtain ⟨a, ns, rfl, _⟩ := h
    rfl
  · obtain ⟨a, ns, rfl, ha, hp, hl, kq⟩ := h
    refine ⟨_, PSs.nox (pss_one (ps_ret (pe_callB (cr_all rfl) rfl T.n_all (by decide +kernel) (pa_cons (pe_lc (own := [("one", 1), ("other", 2)]) (g := gTup K 2 (gCons (gName 1) (gCons (gName 2) gNil))) (tt := tYes) rfl sc_are_rising.nd (pi_zipA rfl T.n_zip (pa_cons (pv 0) (pa_cons (pe_slice RU.sl_seq (pv 0) (po_some pe_int) po_none) pa_nil))) (blkOk_by (own := [("one", 1), ("other", 2)]) (N := ["things", "one", "other"]) (sc := defScope s_are_rising) (by decide +kernel)) (fun _ _ _ _ _ => (pg_tup rfl (pgs_cons (pg_name (i := 1) sc_are_rising.nd rfl (Or.inl rfl)) (pgs_cons (pg_name (i := 2) sc_are_rising.nd rfl (Or.inl rfl)) pgs_nil)))) (fun _ _ _ _ _ => pts_nil) (fun _ _ _ _ _ => (pe_cmpR op_lt (pv 1) (pv 2) (nomark _)))) pa_nil)))), ?_⟩
    have ec : cutV (ns.map V.int) (some 1) none = (ns.map V.int).drop 1 := cut_from' (n := 1)
    have lz : ns.length - 1 = min (ns.map V.int).length ((ns.map V.int).drop 1).length := by
      rw [List.length_drop, List.length_map]
      omega
    refine ⟨_, rfl, _, rfl, 1, rfl, ?_⟩
    rcases ha with ha | ha
    · refine .inl ⟨a, _, rfl, SqL.of ha, fun b hb => ?_⟩
      rw [ec]
      have nab := ne_of_none ha hb
      have s1 : Same H (upd H b (.lst ((ns.map V.int).drop 1))) := same_new hb
      have hb1 : upd H b (.lst ((ns.map V.int).drop 1)) b = some (.lst ((ns.map V.int).drop 1)) := upd_same
      generalize upd H b (.lst ((ns.map V.int).drop 1)) = H1 at s1 hb1
      refine ⟨a, b, _, _, rfl, .inl ⟨SqL.of (s1 _ _ ha), SqL.of hb1, fun D hD => ?_⟩⟩
      refine lc_it (walk_zip lz) (fun i H' => Same H1 H' ∧ H' D = some (.lst ((List.replicate i true).map V.bl))) ⟨same_new hD, upd_same⟩ (fun i H' _ z => ⟨SqL.of (z.1 _ _ (s1 _ _ ha)), SqL.of (z.1 _ _ hb1)⟩) ?_ ?_
      · rintro i x H3 H4 hi ⟨s3, hD3⟩ ⟨t, x1, x2, rfl, ht, rfl, e1, e2⟩
        obtain ⟨y1, y2, rfl, rfl, hlt⟩ := rise_at hp e1 e2
        have nDt := ne_of_none hD3 ht
        refine ⟨t, _, rfl, SqT.of upd_same, rfl, _, _, rfl, _, _, rfl, rfl, rfl, ?_⟩
        dsimp only [tYes]
        rw [if_pos rfl]
        refine ⟨_, rfl, _, rfl, _, _, rfl, rfl, _, same_new ht _ _ hD3, ?_, same_upd (s3.trans (same_new ht)) hD, ?_⟩
        · rw [List.length_map, List.length_replicate]
          exact Nat.lt_of_le_of_lt (by omega : i ≤ 1000) (by decide)
        · rw [upd_same, ← rep_snoc]
          show some (HO.lst (_ ++ [V.bl (decide (y1 < y2))])) = _
          rw [decide_eq_true hlt]
      · rintro H3 ⟨s3, hD3⟩
        refine ⟨D, _, rfl, SqL.of hD3, ?_⟩
        rw [rep_true]
        exact kq H3 (s1.trans s3)
    · have tail : ∀ (b : Addr) (H1 : Hp), Same H H1 → H1 b = some (.tup ((ns.map V.int).drop 1)) → ∀ D, H1 D = none → _ := fun b H1 s1 hb1 D hD =>
        lc_it (g := gTup K 2 (gCons (gName 1) (gCons (gName 2) gNil))) (tt := tYes) (te := tOp (rI0 fun i j => .bl (decide (i < j))) (tVar 1) (tVar 2)) (vs := [1, 2]) (σ := [some (.ref a), none, none]) (D := D) (H1 := H1) (RU.walk_zipT (K := K) (a := a) (b := b) lz)
          (Qd := fun H' => tNil [some (.ref a), none, none] H' fun xs H2 => rAll K (.ref D :: xs) H2 Q)
          (fun i H' => Same H1 H' ∧ H' D = some (.lst ((List.replicate i true).map V.bl))) ⟨same_new hD, upd_same⟩ (fun i H' _ z => ⟨SqT.of (z.1 _ _ (s1 _ _ ha)), SqT.of (z.1 _ _ hb1)⟩) (by
            rintro i x H3 H4 hi ⟨s3, hD3⟩ ⟨t, x1, x2, rfl, ht, rfl, e1, e2⟩
            obtain ⟨y1, y2, rfl, rfl, hlt⟩ := rise_at hp e1 e2
            have nDt := ne_of_none hD3 ht
            refine ⟨t, _, rfl, SqT.of upd_same, rfl, _, _, rfl, _, _, rfl, rfl, rfl, ?_⟩
            dsimp only [tYes]
            rw [if_pos rfl]
            refine ⟨_, rfl, _, rfl, _, _, rfl, rfl, _, same_new ht _ _ hD3, ?_, same_upd (s3.trans (same_new ht)) hD, ?_⟩
            · rw [List.length_map, List.length_replicate]
              exact Nat.lt_of_le_of_lt (by omega : i ≤ 1000) (by decide)
            · rw [upd_same, ← rep_snoc]
              show some (HO.lst (_ ++ [V.bl (decide (y1 < y2))])) = _
              rw [decide_eq_true hlt]) (by
            rintro H3 ⟨s3, hD3⟩
            refine ⟨D, _, rfl, SqL.of hD3, ?_⟩
            rw [rep_true]
            exact kq H3 (s1.trans s3))
      refine .inr ⟨a, _, rfl, SqT.of ha, fun z => ?_, fun z b hb => ?_⟩
      · have e0 : (ns.map V.int) = [] := Classical.byContradiction fun q => drop1 q z
        refine ⟨a, a, _, _, rfl, .inr ⟨SqT.of ha, SqT.of ha, fun D hD => ?_⟩⟩
        exact tail a H (Same.refl H) (by rw [e0] at ha ⊢; exact ha) D hD
      · rw [ec]
        refine ⟨a, b, _, _, rfl, .inr ⟨SqT.of (same_new hb _ _ ha), SqT.of upd_same, fun D hD => ?_⟩⟩
        exact tail b _ (same_new hb) upd_same D hD
def sp_are_rising_pairs : Sp := fun vs H Q _ => ∃ (a : Addr) (ps : List (Int × Int)), vs = [.ref a] ∧ PrT H a ps ∧ (∀ q ∈ ps, GoodPr q) ∧ ps.Pairwise (fun a b => a.1 < b.1) ∧ ps.length ≤ 1000 ∧ ∀ H', Same H H' → Q (.bl true) H'
theorem ok_are_rising_pairs (T : TX K mg) : FnOk P w K mg base CX0 6 (He.ga K "are_rising_pairs") T.fd_are_rising_pairs ["thing"] sp_are_rising_pairs := by
  have G_are_pairs : FnOk P w K mg base CX0 5 (He.ga K "are_pairs") T.fd_are_pairs ["thing"] sp_are_pairs := ok_are_pairs T
  have b_are_pairs := b_are_pairs T
  have G_are_rising : FnOk P w K mg base CX0 1 (He.ga K "are_rising") T.fd_are_rising ["things"] sp_are_rising := ok_are_rising T
  have b_are_rising := b_are_rising T
  refine T.F_are_rising_pairs.ok sc_are_rising_pairs (fun vs H Q E h => ?_) (fun cdv A outer st H vs Q E hr h => ?_)
  · obtain ⟨a, ps, rfl, _⟩ := h
    rfl
  · obtain ⟨a, ps, rfl, hT, hg, hp, hl, kq⟩ := h
    refine ⟨_, PSs.nox (pss_one (ps_ret (pe_and (pe_call G_are_pairs (hr.mono (by first | decide | omega)) rfl T.g_are_pairs T.F_are_pairs.kp b_are_pairs .nil pass0 (pa_cons (pv 0) pa_nil)) (pe_one (pe_call G_are_rising (hr.mono (by first | decide | omega)) rfl T.g_are_rising T.F_are_rising.kp b_are_rising .nil pass0 (pa_cons (pe_lc (own := [("pair", 1)]) (g := gName 1) (tt := tYes) rfl sc_are_rising_pairs.nd (pi_tup (pv 0)) (blkOk_by (own := [("pair", 1)]) (N := ["thing", "pair"]) (sc := defScope s_are_rising_pairs) (by decide +kernel)) (fun _ _ _ _ _ => (pg_name (i := 1) sc_are_rising_pairs.nd rfl (Or.inl rfl))) (fun _ _ _ _ _ => pts_nil) (fun _ _ _ _ _ => (pe_ix (ixt K) (pv 1) pe_int (fun _ _ => rfl)))) pa_nil)))))), ?_⟩
    refine ⟨_, rfl, a, ps, rfl, hT, hg, hl, fun H1 s1 => ⟨true, rfl, iteT ?_⟩⟩
    obtain ⟨xs, ha, hpx⟩ := hT.keep (Keep.of s1)
    have hxl := Paired.length hpx
    refine ⟨_, rfl, a, rfl, ⟨xs, ha.sq⟩, fun D hD => ?_⟩
    refine lc_it walk_tup (fun i H' => Same H1 H' ∧ H' D = some (.lst (((ps.take i).map (·.1)).map V.int))) ⟨same_new hD, upd_same⟩ (fun i H' _ z => (ha.same z.1).sq) ?_ ?_
    · rintro i x H3 H4 hi ⟨s3, hD3⟩ ⟨rfl, hx⟩
      obtain ⟨q, hq, t, rfl, ht⟩ := pget1 hpx hx
      refine ⟨rfl, ?_⟩
      dsimp only [tYes]
      rw [if_pos rfl]
      refine ⟨_, rfl, t, _, _, _, rfl, rfl, SqT.of (s3 _ _ ht), rfl, _, hD3, ?_, same_upd s3 hD, ?_⟩
      · rw [List.length_map, List.length_map, List.length_take]
        exact Nat.lt_of_le_of_lt (by omega : _ ≤ 1000) (by decide)
      · rw [upd_same, take_more hq, List.map_append, List.map_append]
        rfl
    · rintro H3 ⟨s3, hD3⟩
      rw [hxl, List.take_length] at hD3
      refine ⟨D, ps.map (·.1), rfl, .inl hD3, ?_, by rw [List.length_map]; exact hl, fun H5 s5 => kq H5 ((s1.trans s3).trans s5)⟩
      exact List.pairwise_map.mpr hp
end
end K12

namespace K12
open PySem PySem.Spec PyProof.Rows L2 RZ HX TR
/-- the text that stands first in a page -/
def Pg.name : Pg → Str
  | .leaf _ _ => "leaf"
  | .node _ _ => "node"
section
variable {P : Program} {w : World} {K : PySem.W.Frag} {mg : Str → Option Value} {base : Heap}
def sp_is_leaf : Sp := fun vs H Q _ => ∃ (v : V) (g : Pg), vs = [v] ∧ PgAt H v g ∧ PgOk g ∧ ∀ H', Same H H' → Q (.bl (Pg.isLeaf g)) H'
theorem ok_is_leaf (T : TX K mg) : FnOk P w K mg base CX0 7 (He.ga K "is_leaf") T.fd_is_leaf ["thing"] sp_is_leaf := by
  have G_is_row : FnOk P w K mg base CX0 1 (He.ga K "is_row") T.fd_is_row ["thing", "many"] sp_is_row := ok_is_row T
  have b_is_row := b_is_row T
  have G_are_rising_pairs : FnOk P w K mg base CX0 6 (He.ga K "are_rising_pairs") T.fd_are_rising_pairs ["thing"] sp_are_rising_pairs := ok_are_rising_pairs T
  have b_are_rising_pairs := b_are_rising_pairs T
  have G_is_between : FnOk P w K mg base CX0 2 (He.ga K "is_between") T.fd_is_between ["thing", "low", "high"] sp_is_between := ok_is_between T
  have b_is_between := b_is_between T
  refine T.F_is_leaf.ok sc_is_leaf (fun vs H Q E h => ?_) (fun cdv A outer st H vs Q E hr h => ?_)
  · obtain ⟨v, g, rfl, _⟩ := h
    rfl
  · obtain ⟨v, g, rfl, hv, hg, kq⟩ := h
    refine ⟨_, PSs.nox (pss_cons (ps_if (PW.pt (pw_or (pt_not (pt_val (pe_call G_is_row (hr.mono (by first | decide | omega)) rfl T.g_is_row T.F_is_row.kp b_is_row .nil pass0 (pa_cons (pv 0) (pa_cons pe_int pa_nil))))) (pw_or1 (pt_cmpR op_ne (pe_ix ix_tup (pv 0) pe_int (fun _ _ => rfl)) pe_str (nomark _)))))
 (pss_one (ps_ret pe_bl))
 pss_nil)
 (pss_one (ps_ret (pe_and (pe_call G_are_rising_pairs (hr.mono (by first | decide | omega)) rfl T.g_are_rising_pairs T.F_are_rising_pairs.kp b_are_rising_pairs .nil pass0 (pa_cons (pe_ix ix_tup (pv 0) pe_int (fun _ _ => rfl)) pa_nil)) (pe_one (pe_call G_is_between (hr.mono (by first | decide | omega)) rfl T.g_is_between T.F_is_between.kp b_is_between .nil pass0 (pa_cons (pe_ix ix_tup (pv 0) pe_int (fun _ _ => rfl)) (pa_cons pe_int (pa_cons (pe_gint T.g_LAST_PAGE) pa_nil))))))))), ?_⟩
    cases g with
    | leaf ps nx =>
      obtain ⟨t, q, rfl, ht, hT⟩ := hv
      obtain ⟨g1, g2, g3, g4, g5⟩ := hg
      refine ⟨_, rfl, t, _, _, rfl, ht, true, rfl, iteF ?_⟩
      refine ⟨_, rfl, t, _, _, _, rfl, rfl, SqT.of ht, rfl, rfl, _, rfl, iteF ?_⟩
      refine ⟨_, rfl, t, _, _, _, rfl, rfl, SqT.of ht, rfl, q, ps, rfl, hT, g1, g2, g5, fun H1 s1 => ⟨true, rfl, iteT ?_⟩⟩
      refine ⟨_, rfl, t, _, _, _, rfl, rfl, SqT.of (s1 _ _ ht), rfl, nx, 0, 1000000, rfl, ?_⟩
      rw [decide_eq_true g3, decide_eq_true g4]
      exact kq H1 s1
    | node ks kids =>
      obtain ⟨t, q1, q2, rfl, ht, _, _⟩ := hv
      refine ⟨_, rfl, t, _, _, rfl, ht, true, rfl, iteF ?_⟩
      refine ⟨_, rfl, t, _, _, _, rfl, rfl, SqT.of ht, rfl, rfl, _, rfl, iteT ?_⟩
      exact kq H (Same.refl H)
def sp_is_node : Sp := fun vs H Q _ => ∃ (v : V) (g : Pg), vs = [v] ∧ PgAt H v g ∧ PgOk g ∧ Pg.isLeaf g = false ∧ ∀ H', Same H H' → Q (.bl true) H'
theorem ok_is_node (T : TX K mg) : FnOk P w K mg base CX0 4 (He.ga K "is_node") T.fd_is_node ["thing"] sp_is_node := by
  have G_is_row : FnOk P w K mg base CX0 1 (He.ga K "is_row") T.fd_is_row ["thing", "many"] sp_is_row := ok_is_row T
  have b_is_row := b_is_row T
  have G_are_rising : FnOk P w K mg base CX0 1 (He.ga K "are_rising") T.fd_are_rising ["things"] sp_are_rising := ok_are_rising T
  have b_are_rising := b_are_rising T
  have G_is_key : FnOk P w K mg base CX0 3 (He.ga K "is_key") T.fd_is_key ["thing"] (sp_rng 0 1000000000) := ok_is_key T
  have b_is_key := b_is_key T
  have G_is_page_number : FnOk P w K mg base CX0 3 (He.ga K "is_page_number") T.fd_is_page_number ["thing"] (sp_rng 1 1000000) := ok_is_page_number T
  have b_is_page_number := b_is_page_number T
  refine T.F_is_node.ok sc_is_node (fun vs H Q E h => ?_) (fun cdv A outer st H vs Q E hr h => ?_)
  · obtain ⟨v, g, rfl, _⟩ := h
    rfl
  · obtain ⟨v, g, rfl, hv, hg, hl, kq⟩ := h
    refine ⟨_, PSs.nox (pss_cons (ps_if (PW.pt (pw_or (pt_not (pt_val (pe_call G_is_row (hr.mono (by first | decide | omega)) rfl T.g_is_row T.F_is_row.kp b_is_row .nil pass0 (pa_cons (pv 0) (pa_cons pe_int pa_nil))))) (pw_or1 (pt_cmpR op_ne (pe_ix ix_tup (pv 0) pe_int (fun _ _ => rfl)) pe_str (nomark _)))))
 (pss_one (ps_ret pe_bl))
 pss_nil)
 (pss_cons (ps_par (i := 1) (j := 2) rfl sc_is_node.nd rfl rfl (by decide) rfl rfl (pa_cons (pe_ix ix_tup (pv 0) pe_int (fun _ _ => rfl)) (pa_cons (pe_ix ix_tup (pv 0) pe_int (fun _ _ => rfl)) pa_nil)) rfl)
 (pss_cons (ps_if (PW.pt (pw_or (pt_not (pt_val (pe_callB call_isi rfl T.n_isinstance (by decide +kernel) (pa_cons (pv 1) (pa_cons (pe_ty "tuple" T.n_tuple (by decide +kernel)) pa_nil))))) (pw_or (pt_not (pt_val (pe_callB call_isi rfl T.n_isinstance (by decide +kernel) (pa_cons (pv 2) (pa_cons (pe_ty "tuple" T.n_tuple (by decide +kernel)) pa_nil))))) (pw_or1 (pt_cmpR op_ne (pe_op op_add (pe_callB call_len_seq rfl T.n_len PySem.boot_len (pa_cons (pv 1) pa_nil)) pe_int) (pe_callB call_len_seq rfl T.n_len PySem.boot_len (pa_cons (pv 2) pa_nil)) (nomark _))))))
 (pss_one (ps_ret pe_bl))
 pss_nil)
 (pss_cons (ps_if (PW.pt (pw_or (pt_not (pt_val (pe_callB (cr_all rfl) rfl T.n_all (by decide +kernel) (pa_cons (pe_lc (own := [("key", 3)]) (g := gName 3) (tt := tYes) rfl sc_is_node.nd (pi_tup (pv 1)) (blkOk_by (own := [("key", 3)]) (N := ["thing", "keys", "kids", "key", "kid"]) (sc := defScope s_is_node) (by decide +kernel)) (fun _ _ _ _ _ => (pg_name (i := 3) sc_is_node.nd rfl (Or.inl rfl))) (fun _ _ _ _ _ => pts_nil) (fun _ _ _ _ _ => (pe_call G_is_key (hr.mono (by first | decide | omega)) rfl T.g_is_key T.F_is_key.kp b_is_key .nil pass0 (pa_cons (pv 3) pa_nil)))) pa_nil)))) (pw_or1 (pt_not (pt_val (pe_callB (cr_all rfl) rfl T.n_all (by decide +kernel) (pa_cons (pe_lc (own := [("kid", 4)]) (g := gName 4) (tt := tYes) rfl sc_is_node.nd (pi_tup (pv 2)) (blkOk_by (own := [("kid", 4)]) (N := ["thing", "keys", "kids", "key", "kid"]) (sc := defScope s_is_node) (by decide +kernel)) (fun _ _ _ _ _ => (pg_name (i := 4) sc_is_node.nd rfl (Or.inl rfl))) (fun _ _ _ _ _ => pts_nil) (fun _ _ _ _ _ => (pe_call G_is_page_number (hr.mono (by first | decide | omega)) rfl T.g_is_page_number T.F_is_page_number.kp b_is_page_number .nil pass0 (pa_cons (pv 4) pa_nil)))) pa_nil)))))))
 (pss_one (ps_ret pe_bl))
 pss_nil)
 (pss_one (ps_ret (pe_call G_are_rising (hr.mono (by first | decide | omega)) rfl T.g_are_rising T.F_are_rising.kp b_are_rising .nil pass0 (pa_cons (pv 1) pa_nil)))))))), ?_⟩
    cases g with
    | leaf ps nx => cases hl
    | node ks kids =>
      obtain ⟨t, q1, q2, rfl, ht, h1, h2⟩ := hv
      obtain ⟨g1, g2, g3, g4, g5⟩ := hg
      refine ⟨_, rfl, t, _, _, rfl, ht, true, rfl, iteF ?_⟩
      refine ⟨_, rfl, t, _, _, _, rfl, rfl, SqT.of ht, rfl, rfl, _, rfl, iteF ?_⟩
      refine ⟨_, rfl, t, _, _, _, rfl, rfl, SqT.of ht, rfl, _, rfl, t, _, _, _, rfl, rfl, SqT.of ht, rfl, _, _, rfl, ?_⟩
      refine ⟨_, rfl, _, _, .type "tuple", .type "tuple", true, rfl, .ty "tuple", .base (.tup h1), kit_ty (by decide +kernel), true, rfl, iteF ?_⟩
      refine ⟨_, rfl, _, _, .type "tuple", .type "tuple", true, rfl, .ty "tuple", h2.ty, kit_ty (by decide +kernel), true, rfl, iteF ?_⟩
      refine ⟨_, rfl, q1, _, rfl, .inr (SqT.of h1), _, _, rfl, rfl, _, rfl, q2, _, rfl, .inr h2.sq, ?_⟩
      have e1 : (!decide (V.int (((ks.map V.int).length : Nat) + 1 : Int) = V.int (((kids.map V.int).length : Nat) : Int))) = false := by
        rw [List.length_map, List.length_map, show ((ks.length : Nat) : Int) + 1 = (kids.length : Int) by omega]
        simp
      refine ⟨rfl, _, rfl, ?_⟩
      refine (congrArg (fun b => (if b = true then _ else _)) e1).mpr ?_
      refine iteF ?_
      refine ⟨_, rfl, q1, rfl, ⟨_, SqT.of (h1)⟩, fun D1 hD1 => ?_⟩
      refine lc_it (walk_tup (xs := ks.map V.int)) (fun i H' => Same H H' ∧ H' D1 = some (.lst ((List.replicate i true).map V.bl))) ⟨same_new hD1, upd_same⟩ (fun i H' _ z => SqT.of (z.1 _ _ (h1))) ?_ ?_
      · rintro i x H3 H4 hi ⟨s3, hD3⟩ ⟨rfl, hx⟩
        obtain ⟨k, hk, rfl⟩ := map_at hx
        have hr2 := g2 k (List.mem_of_getElem? hk)
        refine ⟨rfl, ?_⟩
        dsimp only [tYes]
        rw [if_pos rfl]
        refine ⟨_, rfl, k, rfl, _, hD3, ?_, same_upd s3 hD1, ?_⟩
        · rw [List.length_map, List.length_replicate]
          rw [List.length_map] at hi
          exact Nat.lt_of_le_of_lt (by omega : i ≤ 1000) (by decide)
        · rw [upd_same, decide_eq_true hr2.1, decide_eq_true hr2.2, ← rep_snoc]
          rfl
      rintro H5 ⟨sH5, hDH5⟩
      refine ⟨D1, _, rfl, SqL.of hDH5, ?_⟩
      rw [rep_true]
      refine ⟨true, rfl, iteF ?_⟩
      refine ⟨_, rfl, q2, rfl, ⟨_, (h2.same sH5).sq⟩, fun D2 hD2 => ?_⟩
      refine lc_it (walk_tup (xs := kids.map V.int)) (fun i H' => Same H5 H' ∧ H' D2 = some (.lst ((List.replicate i true).map V.bl))) ⟨same_new hD2, upd_same⟩ (fun i H' _ z => ((h2.same sH5).same z.1).sq) ?_ ?_
      · rintro i x H3 H4 hi ⟨s3, hD3⟩ ⟨rfl, hx⟩
        obtain ⟨k, hk, rfl⟩ := map_at hx
        have hr2 := g3 k (List.mem_of_getElem? hk)
        refine ⟨rfl, ?_⟩
        dsimp only [tYes]
        rw [if_pos rfl]
        refine ⟨_, rfl, k, rfl, _, hD3, ?_, same_upd s3 hD2, ?_⟩
        · rw [List.length_map, List.length_replicate]
          rw [List.length_map] at hi
          exact Nat.lt_of_le_of_lt (by omega : i ≤ 1000) (by decide)
        · rw [upd_same, decide_eq_true hr2.1, decide_eq_true hr2.2, ← rep_snoc]
          rfl
      rintro H6 ⟨sH6, hDH6⟩
      refine ⟨D2, _, rfl, SqL.of hDH6, ?_⟩
      rw [rep_true]
      refine ⟨true, rfl, iteF ?_⟩
      exact ⟨_, rfl, q1, ks, rfl, .inr (sH6 _ _ (sH5 _ _ h1)), g1, by omega, fun H7 s7 => kq H7 ((sH5.trans sH6).trans s7)⟩
def sp_is_page : Sp := fun vs H Q _ => ∃ (v : V) (g : Pg), vs = [v] ∧ PgAt H v g ∧ PgOk g ∧ ∀ H', Same H H' → Q (.bl true) H'
theorem ok_is_page (T : TX K mg) : FnOk P w K mg base CX0 8 (He.ga K "is_page") T.fd_is_page ["thing"] sp_is_page := by
  have G_is_leaf : FnOk P w K mg base CX0 7 (He.ga K "is_leaf") T.fd_is_leaf ["thing"] sp_is_leaf := ok_is_leaf T
  have b_is_leaf := b_is_leaf T
  have G_is_node : FnOk P w K mg base CX0 4 (He.ga K "is_node") T.fd_is_node ["thing"] sp_is_node := ok_is_node T
  have b_is_node := b_is_node T
  refine T.F_is_page.ok sc_is_page (fun vs H Q E h => ?_) (fun cdv A outer st H vs Q E hr h => ?_)
  · obtain ⟨v, g, rfl, _⟩ := h
    rfl
  · obtain ⟨v, g, rfl, hv, hg, kq⟩ := h
    refine ⟨_, PSs.nox (pss_one (ps_ret (pe_or (pe_call G_is_leaf (hr.mono (by first | decide | omega)) rfl T.g_is_leaf T.F_is_leaf.kp b_is_leaf .nil pass0 (pa_cons (pv 0) pa_nil)) (pe_one (pe_call G_is_node (hr.mono (by first | decide | omega)) rfl T.g_is_node T.F_is_node.kp b_is_node .nil pass0 (pa_cons (pv 0) pa_nil)))))), ?_⟩
    refine ⟨_, rfl, v, g, rfl, hv, hg, fun H1 s1 => ⟨_, rfl, ?_⟩⟩
    cases c : Pg.isLeaf g with
    | true => exact iteT (kq H1 s1)
    | false => exact iteF ⟨_, rfl, v, g, rfl, hv.keep (Keep.of s1), hg, c, fun H2 s2 => kq H2 (s1.trans s2)⟩
def Pg.parts : Pg → Nat
  | .leaf ps _ => ps.length
  | .node _ kids => kids.length
def sp_parts_of (K : PySem.W.Frag) : Sp := fun vs H Q _ => ∃ (v : V) (g : Pg), vs = [v] ∧ PgAt H v g ∧ ∀ a xs, SqT K H a xs → xs.length = Pg.parts g → Q (.ref a) H
theorem ok_parts_of (T : TX K mg) : FnOk P w K mg base CX0 1 (He.ga K "parts_of") T.fd_parts_of ["page"] (sp_parts_of K) := by
  refine T.F_parts_of.ok sc_parts_of (fun vs H Q E h => ?_) (fun cdv A outer st H vs Q E hr h => ?_)
  · obtain ⟨v, g, rfl, _⟩ := h
    rfl
  · obtain ⟨v, g, rfl, hv, kq⟩ := h
    refine ⟨_, PSs.nox (pss_one (ps_ret (pe_ifExp (pt_cmpR op_eq (pe_ix ix_tup (pv 0) pe_int (fun _ _ => rfl)) pe_str (nomark _)) (pe_ix ix_tup (pv 0) pe_int (fun _ _ => rfl)) (pe_ix ix_tup (pv 0) pe_int (fun _ _ => rfl))))), ?_⟩
    cases g with
    | leaf ps nx =>
      obtain ⟨t, q, rfl, ht, xs, hq, hp⟩ := hv
      refine ⟨_, rfl, t, _, _, _, rfl, rfl, SqT.of ht, rfl, rfl, _, rfl, iteT ?_⟩
      exact ⟨_, rfl, t, _, _, _, rfl, rfl, SqT.of ht, rfl, kq q xs hq.sq (Paired.length hp)⟩
    | node ks kids =>
      obtain ⟨t, q1, q2, rfl, ht, h1, h2⟩ := hv
      refine ⟨_, rfl, t, _, _, _, rfl, rfl, SqT.of ht, rfl, rfl, _, rfl, iteF ?_⟩
      exact ⟨_, rfl, t, _, _, _, rfl, rfl, SqT.of ht, rfl, kq q2 _ h2.sq (List.length_map ..)⟩
def sp_is_numbered_page : Sp := fun vs H Q _ => ∃ (x : V) (q : Int × Pg), vs = [x] ∧ NumAt H x q ∧ 1 ≤ q.1 ∧ q.1 ≤ 1000000 ∧ PgOk q.2 ∧ ∀ H', Same H H' → Q (.bl true) H'
theorem ok_is_numbered_page (T : TX K mg) : FnOk P w K mg base CX0 9 (He.ga K "is_numbered_page") T.fd_is_numbered_page ["thing"] sp_is_numbered_page := by
  have G_is_row : FnOk P w K mg base CX0 1 (He.ga K "is_row") T.fd_is_row ["thing", "many"] sp_is_row := ok_is_row T
  have b_is_row := b_is_row T
  have G_is_page_number : FnOk P w K mg base CX0 3 (He.ga K "is_page_number") T.fd_is_page_number ["thing"] (sp_rng 1 1000000) := ok_is_page_number T
  have b_is_page_number := b_is_page_number T
  have G_is_page : FnOk P w K mg base CX0 8 (He.ga K "is_page") T.fd_is_page ["thing"] sp_is_page := ok_is_page T
  have b_is_page := b_is_page T
  refine T.F_is_numbered_page.ok sc_is_numbered_page (fun vs H Q E h => ?_) (fun cdv A outer st H vs Q E hr h => ?_)
  · obtain ⟨x, q, rfl, _⟩ := h
    rfl
  · obtain ⟨x, q, rfl, ⟨t, v, rfl, ht, hv⟩, h1, h2, hg, kq⟩ := h
    refine ⟨_, PSs.nox (pss_one (ps_ret (pe_and (pe_call G_is_row (hr.mono (by first | decide | omega)) rfl T.g_is_row T.F_is_row.kp b_is_row .nil pass0 (pa_cons (pv 0) (pa_cons pe_int pa_nil))) (pe_and (pe_call G_is_page_number (hr.mono (by first | decide | omega)) rfl T.g_is_page_number T.F_is_page_number.kp b_is_page_number .nil pass0 (pa_cons (pe_ix ix_tup (pv 0) pe_int (fun _ _ => rfl)) pa_nil)) (pe_one (pe_call G_is_page (hr.mono (by first | decide | omega)) rfl T.g_is_page T.F_is_page.kp b_is_page .nil pass0 (pa_cons (pe_ix ix_tup (pv 0) pe_int (fun _ _ => rfl)) pa_nil))))))), ?_⟩
    refine ⟨_, rfl, t, _, _, rfl, ht, true, rfl, iteT ?_⟩
    refine ⟨_, rfl, t, _, _, _, rfl, rfl, SqT.of ht, rfl, q.1, rfl, ?_⟩
    rw [decide_eq_true h1, decide_eq_true h2]
    refine ⟨true, rfl, iteT ?_⟩
    exact ⟨_, rfl, t, _, _, _, rfl, rfl, SqT.of ht, rfl, v, q.2, rfl, hv, hg, kq⟩
end
end K12

namespace K12
open PySem PySem.Spec PyProof.Rows L2 RZ HX TR
theorem sqF {K : PySem.W.Frag} {H : Hp} {a : Addr} {o : Obj} {xs : List V} (h : H a = some (.frz o (.tup xs))) : SqT K H a xs := .inl (.inr ⟨o, h⟩)
section
variable {P : Program} {w : World} {K : PySem.W.Frag} {mg : Str → Option Value} {base : Heap}
def sp_are_numbered_pages : Sp := fun vs H Q _ => ∃ (b : Addr) (o : Obj) (xs : List V) (S : List (Int × Pg)), vs = [.ref b] ∧ H b = some (.frz o (.tup xs)) ∧ Paired (NumAt H) xs S ∧ (∀ q ∈ S, 1 ≤ q.1 ∧ q.1 ≤ 1000000 ∧ PgOk q.2) ∧ S.Pairwise (fun a b => a.1 < b.1) ∧ S ≠ [] ∧ S.length ≤ 1000 ∧
  ∀ H', Same H H' → Q (.bl true) H'
theorem ok_are_numbered_pages (T : TX K mg) : FnOk P w K mg base CX0 10 (He.ga K "are_numbered_pages") T.fd_are_numbered_pages ["thing"] sp_are_numbered_pages := by
  have G_is_numbered_page : FnOk P w K mg base CX0 9 (He.ga K "is_numbered_page") T.fd_is_numbered_page ["thing"] sp_is_numbered_page := ok_is_numbered_page T
  have b_is_numbered_page := b_is_numbered_page T
  refine T.F_are_numbered_pages.ok sc_are_numbered_pages (fun vs H Q E h => ?_) (fun cdv A outer st H vs Q E hr h => ?_)
  · obtain ⟨b, o, xs, S, rfl, _⟩ := h
    rfl
  · obtain ⟨b, o, xs, S, rfl, hb, hp, hg, hs, hne, hl, kq⟩ := h
    refine ⟨_, PSs.nox (pss_cons (ps_if (PW.pt (pw_or (pt_not (pt_val (pe_callB call_isi rfl T.n_isinstance (by decide +kernel) (pa_cons (pv 0) (pa_cons (pe_ty "tuple" T.n_tuple (by decide +kernel)) pa_nil))))) (pw_or1 (pt_not (pt_val (pe_callB (cr_all rfl) rfl T.n_all (by decide +kernel) (pa_cons (pe_lc (own := [("part", 3)]) (g := gName 3) (tt := tYes) rfl sc_are_numbered_pages.nd (pi_tup (pv 0)) (blkOk_by (own := [("part", 3)]) (N := ["thing", "one", "other", "part"]) (sc := defScope s_are_numbered_pages) (by decide +kernel)) (fun _ _ _ _ _ => (pg_name (i := 3) sc_are_numbered_pages.nd rfl (Or.inl rfl))) (fun _ _ _ _ _ => pts_nil) (fun _ _ _ _ _ => (pe_call G_is_numbered_page (hr.mono (by first | decide | omega)) rfl T.g_is_numbered_page T.F_is_numbered_page.kp b_is_numbered_page .nil pass0 (pa_cons (pv 3) pa_nil)))) pa_nil)))))))
 (pss_one (ps_ret pe_bl))
 pss_nil)
 (pss_one (ps_ret (pe_callB (cr_all rfl) rfl T.n_all (by decide +kernel) (pa_cons (pe_lc (own := [("one", 1), ("other", 2)]) (g := gTup K 2 (gCons (gName 1) (gCons (gName 2) gNil))) (tt := tYes) rfl sc_are_numbered_pages.nd (pi_zipA rfl T.n_zip (pa_cons (pv 0) (pa_cons (pe_slice sl_tupA (pv 0) (po_some pe_int) po_none) pa_nil))) (blkOk_by (own := [("one", 1), ("other", 2)]) (N := ["thing", "one", "other", "part"]) (sc := defScope s_are_numbered_pages) (by decide +kernel)) (fun _ _ _ _ _ => (pg_tup rfl (pgs_cons (pg_name (i := 1) sc_are_numbered_pages.nd rfl (Or.inl rfl)) (pgs_cons (pg_name (i := 2) sc_are_numbered_pages.nd rfl (Or.inl rfl)) pgs_nil)))) (fun _ _ _ _ _ => pts_nil) (fun _ _ _ _ _ => (pe_cmpR op_lt (pe_ix (ixt K) (pv 1) pe_int (fun _ _ => rfl)) (pe_ix (ixt K) (pv 2) pe_int (fun _ _ => rfl)) (nomark _)))) pa_nil))))), ?_⟩
    have hxl := Paired.length hp
    have xne : xs ≠ [] := fun e => hne (List.eq_nil_of_length_eq_zero (by rw [← hxl, e]; rfl))
    refine ⟨_, rfl, _, _, .type "tuple", .type "tuple", true, rfl, .ty "tuple", .fTuple hb, kit_ty (by decide +kernel), true, rfl, iteF ?_⟩
    refine ⟨_, rfl, b, rfl, ⟨_, sqF hb⟩, fun D hD => ?_⟩
    refine lc_it (walk_tup (xs := xs)) (fun i H' => Same H H' ∧ H' D = some (.lst ((List.replicate i true).map V.bl))) ⟨same_new hD, upd_same⟩ (fun i H' _ z => sqF (z.1 _ _ hb)) ?_ ?_
    · rintro i x H3 H4 hi ⟨s3, hD3⟩ ⟨rfl, hx⟩
      obtain ⟨q, hq, hxq⟩ := pget1 hp hx
      obtain ⟨g1, g2, g3⟩ := hg q (List.mem_of_getElem? hq)
      refine ⟨rfl, ?_⟩
      dsimp only [tYes]
      rw [if_pos rfl]
      refine ⟨_, rfl, x, q, rfl, hxq.keep (Keep.of s3), g1, g2, g3, fun H5 s5 => ⟨_, s5 _ _ hD3, ?_, same_upd (s3.trans s5) hD, ?_⟩⟩
      · rw [List.length_map, List.length_replicate]
        exact Nat.lt_of_le_of_lt (by omega : i ≤ 1000) (by decide)
      · rw [upd_same, rep_snoc]
    rintro H5 ⟨s5, hD5⟩
    refine ⟨D, _, rfl, SqL.of hD5, ?_⟩
    rw [rep_true]
    refine ⟨true, rfl, iteF ?_⟩
    have hb5 := s5 _ _ hb
    have ec : cutV xs (some 1) none = xs.drop 1 := cut_from' (n := 1)
    have lz : xs.length - 1 = min xs.length (xs.drop 1).length := by
      rw [List.length_drop]
      omega
    refine ⟨_, rfl, _, rfl, 1, rfl, b, _, rfl, sqF hb5, (fun z => (drop1 xne z).elim), fun _ c hc => ?_⟩
    rw [ec]
    have s6 : Same H5 (upd H5 c (.tup (xs.drop 1))) := same_new hc
    have hc6 : upd H5 c (.tup (xs.drop 1)) c = some (.tup (xs.drop 1)) := upd_same
    generalize upd H5 c (.tup (xs.drop 1)) = H6 at s6 hc6
    refine ⟨b, c, _, _, rfl, .inr ⟨sqF (s6 _ _ hb5), SqT.of hc6, fun D2 hD2 => ?_⟩⟩
    refine lc_it (RU.walk_zipT lz) (fun i H' => Same H6 H' ∧ H' D2 = some (.lst ((List.replicate i true).map V.bl))) ⟨same_new hD2, upd_same⟩ (fun i H' _ z => ⟨sqF (z.1 _ _ (s6 _ _ hb5)), SqT.of (z.1 _ _ hc6)⟩) ?_ ?_
    · rintro i x H3 H4 hi ⟨s3, hD3⟩ ⟨t, x1, x2, rfl, ht, rfl, e1, e2⟩
      dsimp only at e1 e2
      rw [List.getElem?_drop] at e2
      obtain ⟨q1, hq1, t1, v1, rfl, ht1, _⟩ := pget1 hp e1
      obtain ⟨q2, hq2, t2, v2, rfl, ht2, _⟩ := pget1 hp e2
      have hlt : q1.1 < q2.1 := by
        obtain ⟨a1, a2⟩ := List.getElem?_eq_some_iff.mp hq1
        obtain ⟨b1, b2⟩ := List.getElem?_eq_some_iff.mp hq2
        rw [← a2, ← b2]
        exact List.pairwise_iff_getElem.mp hs _ _ a1 b1 (by omega)
      have s04 : Same H (upd H3 t (.tup [.ref t1, .ref t2])) := ((s5.trans s6).trans s3).trans (same_new ht)
      refine ⟨t, _, rfl, SqT.of upd_same, rfl, _, _, rfl, _, _, rfl, rfl, rfl, ?_⟩
      dsimp only [tYes]
      rw [if_pos rfl]
      refine ⟨_, rfl, t1, _, _, _, rfl, rfl, SqT.of (s04 _ _ ht1), rfl, _, rfl, t2, _, _, _, rfl, rfl, SqT.of (s04 _ _ ht2), rfl, _, _, rfl, rfl, _, same_new ht _ _ hD3, ?_, same_upd (s3.trans (same_new ht)) hD2, ?_⟩
      · rw [List.length_map, List.length_replicate]
        exact Nat.lt_of_le_of_lt (by omega : i ≤ 1000) (by decide)
      · rw [upd_same, ← rep_snoc]
        show some (HO.lst (_ ++ [V.bl (decide (q1.1 < q2.1))])) = _
        rw [decide_eq_true hlt]
    · rintro H7 ⟨s7, hD7⟩
      refine ⟨D2, _, rfl, SqL.of hD7, ?_⟩
      rw [rep_true]
      exact kq H7 ((s5.trans s6).trans s7)
end
end K12

namespace K12
open PySem PySem.Spec PyProof.Rows L2 RZ HX TR
section
variable {P : Program} {w : World} {K : PySem.W.Frag} {mg : Str → Option Value} {base : Heap}
/-- how many keys are not above the key -/
def placeOf (ks : List Int) (k : Int) : Nat := (ks.filter fun x => decide (x ≤ k)).length
def sp_kid_place : Sp := fun vs H Q _ => ∃ (a : Addr) (ks : List Int) (k : Int), vs = [.ref a, .int k] ∧ H a = some (.tup (ks.map V.int)) ∧ ks.length ≤ 1000 ∧ ∀ H', Same H H' → Q (.int (placeOf ks k : Nat)) H'
theorem ok_kid_place (T : TX K mg) : FnOk P w K mg base CX0 1 (He.ga K "kid_place") T.fd_kid_place ["keys", "key"] sp_kid_place := by
  refine T.F_kid_place.ok sc_kid_place (fun vs H Q E h => ?_) (fun cdv A outer st H vs Q E hr h => ?_)
  · obtain ⟨a, ks, k, rfl, _⟩ := h
    rfl
  · obtain ⟨a, ks, k, rfl, ha, hl, kq⟩ := h
    refine ⟨_, PSs.nox (pss_one (ps_ret (pe_callB call_len_seq rfl T.n_len PySem.boot_len (pa_cons (pe_lc (own := [("one", 2)]) (g := gName 2) (tt := _) rfl sc_kid_place.nd (pi_tup (pv 0)) (blkOk_by (own := [("one", 2)]) (N := ["keys", "key", "one"]) (sc := defScope s_kid_place) (by decide +kernel)) (fun _ _ _ _ _ => (pg_name (i := 2) sc_kid_place.nd rfl (Or.inl rfl))) (fun _ _ _ _ _ => pts_one (pt_cmpR op_le (pv 2) (pv 1) (nomark _))) (fun _ _ _ _ _ => (pv 2))) pa_nil)))), ?_⟩
    refine ⟨_, rfl, a, rfl, ⟨_, SqT.of ha⟩, fun D hD => ?_⟩
    refine lc_it (walk_tup (xs := ks.map V.int)) (fun i H' => Same H H' ∧ H' D = some (.lst (((ks.take i).filter fun x => decide (x ≤ k)).map V.int))) ⟨same_new hD, upd_same⟩ (fun i H' _ z => SqT.of (z.1 _ _ ha)) ?_ ?_
    · rintro i x H3 H4 hi ⟨s3, hD3⟩ ⟨rfl, hx⟩
      obtain ⟨y, hy, rfl⟩ := map_at hx
      refine ⟨rfl, ?_⟩
      refine ⟨_, rfl, _, rfl, _, _, rfl, rfl, _, rfl, ?_⟩
      rw [List.length_map] at hi
      cases c : decide (y ≤ k) with
      | true =>
        refine iteT ⟨_, rfl, _, hD3, ?_, same_upd s3 hD, ?_⟩
        · rw [List.length_map]
          have z := List.length_filter_le (fun x => decide (x ≤ k)) (ks.take i)
          rw [List.length_take] at z
          exact Nat.lt_of_le_of_lt (by omega : _ ≤ 1000) (by decide)
        · rw [upd_same, take_more hy, List.filter_append, List.map_append]
          simp [of_decide_eq_true c]
      | false =>
        refine iteF ⟨s3, ?_⟩
        rw [take_more hy, List.filter_append, hD3]
        simp [of_decide_eq_false c]
    · rintro H3 ⟨s3, hD3⟩
      rw [List.length_map, List.take_length] at hD3
      refine ⟨D, _, rfl, .inl (SqL.of hD3), ?_⟩
      rw [List.length_map]
      exact kq H3 s3
end
end K12

namespace K12
open PySem PySem.Spec PyProof.Rows L2 RZ HX TR
def seenE (ks : List Int) : List (Key × V) := ks.map fun k => ((.inl k : Key), V.bl true)
theorem seen_none {ks : List Int} {n : Int} (h : n ∉ ks) : valV (seenE ks) (.inl n) = none := by
  unfold valV
  rw [List.find?_eq_none.mpr]
  · rfl
  · intro x hx
    obtain ⟨k, hk, rfl⟩ := List.mem_map.mp hx
    intro e
    have e2 := of_decide_eq_true e
    injection e2 with e3
    exact h (e3 ▸ hk)
theorem seen_put {ks : List Int} {n : Int} (h : n ∉ ks) : putK (seenE ks) (.inl n) (.bl true) = seenE (ks ++ [n]) := by
  rw [RU.putK_new (fun q hq e => ?_)]
  · unfold seenE
    rw [List.map_append]
    rfl
  · obtain ⟨k, hk, rfl⟩ := List.mem_map.mp hq
    injection e with e3
    exact h (e3 ▸ hk)
def RowAt (H : Hp) (lv : Addr) (v : V) (r : List Int) : Prop := ∃ b, v = .ref b ∧ b ≠ lv ∧ H b = some (.lst (r.map V.int))
def LevAt (H : Hp) (lv : Addr) (R : List (List Int)) : Prop := ∃ vs : List V, H lv = some (.lst vs) ∧ Paired (RowAt H lv) vs R
theorem RowAt.upd {H : Hp} {lv p : Addr} {o : HO} {v : V} {r : List Int} (h : RowAt H lv v r) (hp : ∀ xs, H p ≠ some (.lst xs)) : RowAt (upd H p o) lv v r := by
  obtain ⟨b, e, n, h1⟩ := h
  exact ⟨b, e, n, by rw [upd_ne (fun z => hp _ (z ▸ h1))]; exact h1⟩
theorem LevAt.upd {H : Hp} {lv p : Addr} {o : HO} {R : List (List Int)} (h : LevAt H lv R) (hp : ∀ xs, H p ≠ some (.lst xs)) : LevAt (upd H p o) lv R := by
  obtain ⟨vs, h1, h2⟩ := h
  exact ⟨vs, by rw [upd_ne (fun z => hp _ (z ▸ h1))]; exact h1, paired_imp (fun _ _ r => RowAt.upd r hp) h2⟩
theorem LevAt.same {H H' : Hp} {lv : Addr} {R : List (List Int)} (h : LevAt H lv R) (s : Same H H') : LevAt H' lv R := by
  obtain ⟨vs, h1, h2⟩ := h
  exact ⟨vs, s _ _ h1, paired_imp (fun _ _ ⟨b, e, n, h⟩ => ⟨b, e, n, s _ _ h⟩) h2⟩
theorem laid_some {S : List (Int × Pg)} : ∀ {m : Nat} {u : Tr m}, Laid S m u → ∃ g, lkp S (num m u) = some g
  | 0, _, ⟨_, h⟩ => ⟨_, h⟩
  | _ + 1, _, ⟨h, _⟩ => ⟨_, h⟩
/-- the page that stands at the number -/
def pgv (es : List (Key × V)) (k : Int) : V := (valV es (.inl k)).getD .non
theorem pgv_ok {H : Hp} {d : Addr} {es : List (Key × V)} {D : List (Int × Pg)} (h1 : H d = some (.dK es)) (h2 : Paired (EnAt H) es D) {k : Int} {g : Pg} (e : lkp D k = some g) : DGet H d (.int k) (some (pgv es k)) ∧ PgAt H (pgv es k) g := by
  rcases valV_of (k := k) h2 with ⟨z, _⟩ | ⟨g', v, z, hv, hg⟩
  · rw [z] at e
    cases e
  · rw [z] at e
    cases e
    have e2 : pgv es k = v := by
      unfold pgv
      rw [hv]
      rfl
    rw [e2]
    exact ⟨hv ▸ DGet.k (k := .inl k) h1, hg⟩
section
variable {P : Program} {w : World} {K : PySem.W.Frag} {mg : Str → Option Value} {base : Heap}
def sp_levels_from : Sp := fun vs H Q _ => ∃ (l : Nat) (t : Tr l) (S : List (Int × Pg)) (d : Addr), vs = [.int (num l t), .ref d] ∧ DctAt H d S ∧ Laid S l t ∧ KeyOk l t ∧ (nums l t).Nodup ∧ S.length = (nums l t).length ∧ S.length ≤ 1000 ∧ l ≤ 100 ∧
  ∀ (H' : Hp) (a : Addr), Same H H' → LevAt H' a (rows l [t]) → Q (.ref a) H'
theorem ok_levels_from (T : TX K mg) : FnOk P w K mg base CX0 1 (He.ga K "levels_from") T.fd_levels_from ["root", "pages"] sp_levels_from := by
  refine T.F_levels_from.ok sc_levels_from (fun vs H Q E h => ?_) (fun cdv A outer st H vs Q E hr h => ?_)
  · obtain ⟨l, t, S, d, rfl, _⟩ := h
    rfl
  · obtain ⟨l, t, S, d, rfl, ⟨es, hd, hde⟩, hL, hK, nd, hlen, few, hl, kq⟩ := h
    refine ⟨_, PSs.nox (pss_cons (ps_set (i := 2) sc_levels_from.nd rfl (Or.inl rfl) pe_dnewK)
 (pss_cons (ps_set (i := 3) sc_levels_from.nd rfl (Or.inl rfl) (pe_lst pa_nil))
 (pss_cons (ps_set (i := 4) sc_levels_from.nd rfl (Or.inl rfl) (pe_lst (pa_cons (pv 0) pa_nil)))
 (pss_cons (ps_while PassesOwn.never (pt_truth (pv 4) (by intro _; rfl))
 (pss_cons (ps_for PassesOwn.never rfl (pi_list (pv 4)) (pg_name (i := 5) sc_levels_from.nd rfl (Or.inl rfl))
 (pss_cons (ps_if (PW.pt (pw_or (pt_cmp (pc_dnotin (hu_of hr) (pv 5) (pv 1))) (pw_or1 (pt_cmp (pc_din (hu_of hr) (pv 5) (pv 2))))))
 (pss_one (ps_ret pe_non))
 pss_nil)
 (pss_one (ps_dput (hu_of hr) (pv 2) (pv 5) pe_bl rfl))))
 (pss_cons (ps_expr (pe_bm PySem.F.plainAttrs_list PySem.F.slot_list_append PySem.F.type_list_append mt_append (pv 3) (pa_cons (pv 4) pa_nil)))
 (pss_cons (ps_setLc (i := 6) (own := [("number", 5)]) (g := gName 5) (tt := _) rfl sc_levels_from.nd rfl rfl (sw_true rfl rfl rfl (by decide +kernel)) (pi_list (pv 4)) (blkOk_by (own := [("number", 5)]) (N := ["root", "pages", "seen", "levels", "level", "number", "nodes", "node", "kid"]) (sc := defScope s_levels_from) (by decide +kernel)) (fun _ _ _ _ _ => (pg_name (i := 5) sc_levels_from.nd rfl (Or.inl rfl))) (fun _ _ _ _ _ => pts_one (pt_cmpR op_eq (pe_ix (ixt K) (pe_dget (hu_of hr) (pv 1) (pv 5) (fun _ _ => rfl)) pe_int (fun _ _ => rfl)) pe_str (nomark _))) (fun _ _ _ _ _ => (pe_dget (hu_of hr) (pv 1) (pv 5) (fun _ _ => rfl))))
 (pss_cons (ps_if (PW.pt (pw_and (pt_truth (pv 6) (by intro _; rfl)) (pw_and1 (pt_cmpR op_lt (pe_callB call_len_seq rfl T.n_len PySem.boot_len (pa_cons (pv 6) pa_nil)) (pe_callB call_len_seq rfl T.n_len PySem.boot_len (pa_cons (pv 4) pa_nil)) (nomark _)))))
 (pss_one (ps_ret pe_non))
 pss_nil)
 (pss_one (ps_setLc2 (i := 4) (own := [("node", 7), ("kid", 8)]) (vs1 := [8]) (g := gName 7) (g1 := gName 8) (tt := tYes) (tt1 := tYes) rfl sc_levels_from.nd rfl rfl (sw_true rfl rfl rfl (by decide +kernel)) (pi_list (pv 6)) (blkOk_by (own := [("node", 7), ("kid", 8)]) (N := ["root", "pages", "seen", "levels", "level", "number", "nodes", "node", "kid"]) (sc := defScope s_levels_from) (by decide +kernel)) (by decide) (fun _ _ _ _ _ => (pg_name (i := 7) sc_levels_from.nd rfl (Or.inl rfl))) (fun _ _ _ _ _ => pts_nil) (fun _ _ _ _ _ => (RU.pi_tupK K (pe_ix (ixt K) (pv 7) pe_int (fun _ _ => rfl)))) (fun _ _ _ _ _ => (pg_name (i := 8) sc_levels_from.nd rfl (Or.inl rfl))) (fun _ _ _ _ _ => pts_nil) (fun _ _ _ _ _ => (pv 8)))))))))
 (pss_one (ps_ret (pe_ifExp (pt_cmpR op_eq (pe_callB call_lenD rfl T.n_len PySem.boot_len (pa_cons (pv 2) pa_nil)) (pe_callB call_lenD rfl T.n_len PySem.boot_len (pa_cons (pv 1) pa_nil)) (nomark _)) (pv 3) pe_non))))))), ?_⟩
    refine fun ds hds => ⟨Nat.zero_le _, fun lv hlv => ?_⟩
    refine ⟨_, rfl, by show 1 ≤ sizeLine; decide, fun a0 ha0 => ?_⟩
    have n1 : ds ≠ lv := ne_of_none (upd_same : upd H ds (.dK []) ds = _) hlv
    have s1 : Same H (upd (upd H ds (.dK [])) lv (.lst [])) := (same_new hds).trans (same_new hlv)
    have hds1 : upd (upd H ds (.dK [])) lv (.lst []) ds = some (.dK []) := by rw [upd_ne n1]; exact upd_same
    have hlv1 : upd (upd H ds (.dK [])) lv (.lst []) lv = some (.lst []) := upd_same
    generalize upd (upd H ds (.dK [])) lv (.lst []) = H1 at s1 hds1 hlv1 ha0
    have s2 := s1.trans (same_new (o := .lst [.int (num l t)]) ha0)
    have hds2 := same_new (o := .lst [.int (num l t)]) ha0 _ _ hds1
    have hlv2 := same_new (o := .lst [.int (num l t)]) ha0 _ _ hlv1
    have ha2 : upd H1 a0 (.lst [.int (num l t)]) a0 = some (.lst [.int (num l t)]) := upd_same
    have na0 : a0 ≠ lv := (ne_of_none hlv1 ha0).symm
    have hRlen : (rows l [t]).flatten.Perm (nums l t) := by
      have z := rows_perm [t]
      simpa using z
    have ndR : (rows l [t]).flatten.Nodup := hRlen.nodup_iff.mpr nd
    have nds : ∀ b o, H b = some o → b ≠ ds := fun b o e => ne_of_none e hds
    refine ⟨fun k σ H' => ∃ (a : Addr) (cur : List Int) (v5 v6 v7 v8 : Option V) (done : List (List Int)), σ = [some (.int (num l t)), some (.ref d), some (.ref ds), some (.ref lv), some (.ref a), v5, v6, v7, v8] ∧ Same H H' ∧ a ≠ lv ∧ H' a = some (.lst (cur.map V.int)) ∧ H' ds = some (.dK (seenE done.flatten)) ∧ LevAt H' lv done ∧
      ((k = 0 ∧ cur = [] ∧ done = rows l [t]) ∨ ∃ (m : Nat) (F : List (Tr m)), k = m + 1 ∧ cur = F.map (num m) ∧ F ≠ [] ∧ (∀ u ∈ F, Laid S m u) ∧ (∀ u ∈ F, KeyOk m u) ∧ done ++ rows m F = rows l [t]),
      ⟨l + 1, a0, [num l t], _, _, _, _, [], rfl, s2, na0, ha2, hds2, ⟨[], hlv2, .nil⟩, .inr ⟨l, [t], rfl, rfl, by simp, fun u hu => by rw [List.mem_singleton.mp hu]; exact hL, fun u hu => by rw [List.mem_singleton.mp hu]; exact hK, rfl⟩⟩, ?_⟩
    rintro k σ H3 ⟨a, cur, v5, v6, v7, v8, done, rfl, s3, na, ha3, hds3, hlv3, hcase⟩
    have hd3 := s3 _ _ hd
    have hde3 := paired_imp (fun _ _ (r : EnAt H _ _) => (⟨r.1, r.2.keep (Keep.of s3)⟩ : EnAt H3 _ _)) hde
    refine ⟨_, rfl, !(cur.map V.int).isEmpty, .inl ⟨_, SqL.of ha3, rfl⟩, ?_⟩
    rcases hcase with ⟨rfl, rfl, rfl⟩ | ⟨m, F, rfl, rfl, hF, hFL, hFK, hdone⟩
    · refine iteF ?_
      have e2 : decide (V.int ((seenE (rows l [t]).flatten).length : Int) = V.int (es.length : Int)) = true := by
        have z1 := hRlen.length_eq
        have z2 := Paired.length hde
        refine decide_eq_true ?_
        congr 1
        unfold seenE
        rw [List.length_map]
        omega
      refine ⟨_, rfl, ds, _, rfl, hds3, _, rfl, d, _, rfl, hd3, rfl, _, rfl, ?_⟩
      refine (congrArg (fun b => (if b = true then _ else _)) e2).mpr (iteT ?_)
      exact ⟨_, rfl, kq _ _ s3 hlv3⟩
    · have e1 : (!((F.map (num m)).map V.int).isEmpty) = true := by
        cases F with
        | nil => exact (hF rfl).elim
        | cons u F => rfl
      rw [e1]
      refine iteT ?_
      refine ⟨_, fun σ' H' h => ⟨m, Nat.lt_succ_self m, h⟩, ?_⟩
      obtain ⟨r, hrw⟩ := rows_cons F
      have hnd : (done.flatten ++ F.map (num m)).Nodup := by
        have z := ndR
        rw [← hdone, hrw, List.flatten_append, List.flatten_cons, ← List.append_assoc] at z
        exact (List.nodup_append.mp z).1
      have hlenR : (done.flatten ++ F.map (num m)).length ≤ 1000 := by
        have z := hRlen.length_eq
        rw [← hdone, hrw, List.flatten_append, List.flatten_cons, ← List.append_assoc, List.length_append] at z
        omega
      have hdl : done.length ≤ 101 := by
        have z := congrArg List.length hdone
        rw [List.length_append, rows_len, rows_len] at z
        omega
      refine ⟨_, rfl, a, rfl, ⟨_, SqL.of ha3⟩, ?_⟩
      refine for_list (xs := (F.map (num m)).map V.int) (fun i σ H' => ∃ v5', σ = [some (.int (num l t)), some (.ref d), some (.ref ds), some (.ref lv), some (.ref a), v5', v6, v7, v8] ∧ Same H H' ∧ H' a = some (.lst ((F.map (num m)).map V.int)) ∧
        H' ds = some (.dK (seenE (done.flatten ++ (F.map (num m)).take i))) ∧ LevAt H' lv done) ⟨v5, rfl, s3, ha3, by rw [List.take_zero, List.append_nil]; exact hds3, hlv3⟩ (fun i σ H' _ z => ?_) ?_ ?_
      · obtain ⟨_, _, _, z, _⟩ := z
        exact SqL.of z
      · rintro i x σ H4 hx ⟨v5', rfl, s4, ha4, hds4, hlv4⟩
        obtain ⟨n, hn, rfl⟩ := map_at hx
        obtain ⟨u, hu, rfl⟩ := map_at hn
        have hnn : num m u ∉ done.flatten ++ (F.map (num m)).take i := fun z => by
          have z2 := hnd
          rw [← List.take_append_drop (i + 1) (F.map (num m)), take_more hn, ← List.append_assoc, ← List.append_assoc] at z2
          have z3 := (List.nodup_append.mp (List.nodup_append.mp z2).1).2.2
          exact z3 _ z _ (List.mem_singleton.mpr rfl) rfl
        obtain ⟨g, hg⟩ := laid_some (hFL u (List.mem_of_getElem? hu))
        have hde4 := paired_imp (fun _ _ (r : EnAt H _ _) => (⟨r.1, r.2.keep (Keep.of s4)⟩ : EnAt H4 _ _)) hde
        have hv := (pgv_ok (s4 _ _ hd) hde4 hg).1
        refine ⟨_, rfl, _, rfl, d, _, rfl, hv, _, rfl, iteF ?_⟩
        refine ⟨_, rfl, _, rfl, ds, none, rfl, seen_none hnn ▸ DGet.k (k := .inl (num m u)) hds4, _, rfl, iteF ?_⟩
        refine ⟨_, rfl, _, rfl, ds, _, rfl, DPut.k (k := .inl (num m u)) hds4 ?_, ?_⟩
        · unfold seenE
          rw [List.length_map, List.length_append, List.length_take]
          rw [List.length_append] at hlenR
          exact Nat.lt_of_le_of_lt (by omega : _ ≤ 1000) (by decide)
        · rw [seen_put hnn]
          refine ⟨_, rfl, fun b o e => ?_, ?_, ?_, hlv4.upd fun xs e => by rw [hds4] at e; cases e⟩
          · rw [upd_ne (nds b o e)]
            exact s4 b o e
          · rw [upd_ne (fun z => by rw [z, hds4] at ha4; cases ha4)]
            exact ha4
          · rw [upd_same, take_more hn, List.append_assoc]
      · rintro σ H4 ⟨v5', rfl, s4, ha4, hds4, vs, hlv4, hvs4⟩
        rw [List.length_map, List.take_length] at hds4
        refine ⟨_, rfl, .inl ⟨rfl, _, SqL.of hlv4⟩, _, rfl, lv, _, _, rfl, rfl, hlv4, ?_, ?_⟩
        · have := Paired.length hvs4
          exact Nat.lt_of_le_of_lt (by omega : _ ≤ 1000) (by decide)
        have nlv : ∀ b o, H b = some o → b ≠ lv := fun b o e => ne_of_none (same_new hds _ _ e) hlv
        have s5 : Same H (upd H4 lv (.lst (vs ++ [.ref a]))) := fun b o e => by rw [upd_ne (nlv b o e)]; exact s4 b o e
        have ha5 : upd H4 lv (.lst (vs ++ [.ref a])) a = some (.lst ((F.map (num m)).map V.int)) := by rw [upd_ne na]; exact ha4
        have hds5 : upd H4 lv (.lst (vs ++ [.ref a])) ds = some (.dK (seenE (done.flatten ++ F.map (num m)))) := by rw [upd_ne n1]; exact hds4
        have hlv5 : LevAt (upd H4 lv (.lst (vs ++ [.ref a]))) lv (done ++ [F.map (num m)]) := by
          refine ⟨_, upd_same, paired_snoc ⟨a, rfl, na, ha5⟩ (paired_imp (fun _ _ ⟨b, e, n, h⟩ => ⟨b, e, n, by rw [upd_ne n]; exact h⟩) hvs4)⟩
        generalize upd H4 lv (.lst (vs ++ [.ref a])) = H5 at s5 ha5 hds5 hlv5
        have hd5 := s5 _ _ hd
        have hde5 := paired_imp (fun _ _ (r : EnAt H _ _) => (⟨r.1, r.2.keep (Keep.of s5)⟩ : EnAt H5 _ _)) hde
        refine ⟨_, rfl, a, rfl, ⟨_, SqL.of ha5⟩, fun N hN => ?_⟩
        cases m with
        | zero =>
          refine lc_it (walk_list (xs := (F.map (num 0)).map V.int)) (fun i H' => Same H5 H' ∧ H' N = some (.lst [])) ⟨same_new hN, upd_same⟩ (fun i H' _ z => SqL.of (z.1 _ _ ha5)) ?_ ?_
          · rintro i x H6 H7 hi ⟨s6, hN6⟩ ⟨rfl, hx⟩
            obtain ⟨n, hn, rfl⟩ := map_at hx
            obtain ⟨u, hu, rfl⟩ := map_at hn
            obtain ⟨nx, hg⟩ := hFL u (List.mem_of_getElem? hu)
            have hde6 := paired_imp (fun _ _ (r : EnAt H5 _ _) => (⟨r.1, r.2.keep (Keep.of s6)⟩ : EnAt _ _ _)) hde5
            obtain ⟨hv, t1, q, e, ht1, _⟩ := pgv_ok (s6 _ _ hd5) hde6 hg
            refine ⟨rfl, ?_⟩
            refine ⟨_, rfl, _, rfl, d, _, rfl, hv, t1, _, _, _, e, rfl, SqT.of ht1, rfl, rfl, _, rfl, iteF ⟨s6, hN6⟩⟩
          · rintro H6 ⟨s6, hN6⟩
            refine ⟨_, rfl, false, .inl ⟨[], SqL.of hN6, rfl⟩, iteF (iteF ?_)⟩
            refine ⟨_, rfl, N, rfl, ⟨_, SqL.of hN6⟩, fun N2 hN2 => ?_⟩
            refine RU.out_it (walk_list (xs := [])) (fun i H' => Same H6 H' ∧ H' N2 = some (.lst [])) ⟨same_new hN2, upd_same⟩ (fun i H' _ z => SqL.of (z.1 _ _ hN6)) (fun i x _ _ hi => absurd hi (Nat.not_lt_zero i)) ?_
            rintro H7 ⟨s7, hN7⟩
            have s57 := s6.trans s7
            refine ⟨N2, [], _, _, _, _, done ++ [F.map (num 0)], rfl, s5.trans s57, ?_, hN7, ?_, hlv5.same s57, .inl ⟨rfl, rfl, ?_⟩⟩
            · obtain ⟨vs5, h5, _⟩ := hlv5
              exact (ne_of_none (s6 _ _ h5) hN2).symm
            · rw [List.flatten_append, List.flatten_cons, List.flatten_nil, List.append_nil]
              exact s57 _ _ hds5
            · rw [← hdone]
              rfl
        | succ m =>
          have hF0 : 0 < F.length := List.length_pos_iff.mpr hF
          obtain ⟨r2, hrw2⟩ := rows_cons (kidsF F)
          have hkl : (kidsF F).length ≤ 1000 := by
            have z := hRlen.length_eq
            have e2 : rows (m + 1) F = F.map (num (m + 1)) :: rows m (kidsF F) := rfl
            rw [← hdone, e2, hrw2, List.flatten_append, List.flatten_cons, List.flatten_cons] at z
            simp only [List.length_append, List.length_map] at z
            omega
          have hFl : F.length ≤ 1000 := by
            rw [List.length_append, List.length_map] at hlenR
            omega
          refine lc_it (walk_list (xs := (F.map (num (m + 1))).map V.int)) (fun i H' => Same H5 H' ∧ H' N = some (.lst ((F.take i).map fun u => pgv es (num (m + 1) u)))) ⟨same_new hN, upd_same⟩ (fun i H' _ z => SqL.of (z.1 _ _ ha5)) ?_ ?_
          · rintro i x H6 H7 hi ⟨s6, hN6⟩ ⟨rfl, hx⟩
            obtain ⟨n, hn, rfl⟩ := map_at hx
            obtain ⟨u, hu, rfl⟩ := map_at hn
            obtain ⟨hg, _⟩ := hFL u (List.mem_of_getElem? hu)
            have hde6 := paired_imp (fun _ _ (r : EnAt H5 _ _) => (⟨r.1, r.2.keep (Keep.of s6)⟩ : EnAt _ _ _)) hde5
            obtain ⟨hv, t1, q1, q2, e, ht1, _, _⟩ := pgv_ok (s6 _ _ hd5) hde6 hg
            refine ⟨rfl, ?_⟩
            refine ⟨_, rfl, _, rfl, d, _, rfl, hv, t1, _, _, _, e, rfl, SqT.of ht1, rfl, rfl, _, rfl, iteT ?_⟩
            refine ⟨_, rfl, _, rfl, d, _, rfl, hv, _, hN6, ?_, same_upd s6 hN, ?_⟩
            · rw [List.length_map, List.length_take]
              exact Nat.lt_of_le_of_lt (by omega : _ ≤ 1000) (by decide)
            · rw [upd_same, take_more hu, List.map_append]
              rfl
          · rintro H6 ⟨s6, hN6⟩
            rw [List.length_map, List.length_map, List.take_length] at hN6
            have e3 : true = !(F.map fun u => pgv es (num (m + 1) u)).isEmpty := by
              cases F with
              | nil => exact (hF rfl).elim
              | cons u F => rfl
            have e4 : decide (((F.map fun u => pgv es (num (m + 1) u)).length : Int) < (((F.map (num (m + 1))).map V.int).length : Int)) = false := decide_eq_false (by simp only [List.length_map]; omega)
            refine ⟨_, rfl, true, .inl ⟨_, SqL.of hN6, e3⟩, iteT ?_⟩
            refine ⟨_, rfl, N, _, rfl, .inl (SqL.of hN6), _, rfl, a, _, rfl, .inl (SqL.of (s6 _ _ ha5)), _, _, rfl, rfl, _, rfl, ?_⟩
            refine (congrArg (fun b => (if b = true then _ else _)) e4).mpr (iteF ?_)
            refine ⟨_, rfl, N, rfl, ⟨_, SqL.of hN6⟩, fun N2 hN2 => ?_⟩
            have part : ∀ i u, F[i]? = some u → (kidsF (F.take i)).length + u.kids.length ≤ 1000 := fun i u hu => by
              have z := sum_part1 (fun u : Tr (m + 1) => u.kids.length) hu
              have z2 : (kidsF F).length = (F.map fun u => u.kids.length).sum := List.length_flatMap
              have z3 : (kidsF (F.take i)).length = ((F.take i).map fun u => u.kids.length).sum := List.length_flatMap
              rw [z3]
              rw [z2] at hkl
              omega
            refine RU.out_it (walk_list (xs := F.map fun u => pgv es (num (m + 1) u))) (fun i H' => Same H6 H' ∧ H' N2 = some (.lst (((kidsF (F.take i)).map (num m)).map V.int))) ⟨same_new hN2, upd_same⟩ (fun i H' _ z => SqL.of (z.1 _ _ hN6)) ?_ ?_
            · rintro i x H7 H8 hi ⟨s7, hN7⟩ ⟨rfl, hx⟩
              obtain ⟨u, hu, rfl⟩ := map_at hx
              obtain ⟨hg, _⟩ := hFL u (List.mem_of_getElem? hu)
              have s57 := s6.trans s7
              have hde7 := paired_imp (fun _ _ (r : EnAt H5 _ _) => (⟨r.1, r.2.keep (Keep.of s57)⟩ : EnAt _ _ _)) hde5
              obtain ⟨hv, t1, q1, q2, e, ht1, _, hq2⟩ := pgv_ok (s57 _ _ hd5) hde7 hg
              have hp := part i u hu
              refine ⟨rfl, ?_⟩
              dsimp only [tYes]
              rw [if_pos rfl]
              refine ⟨_, rfl, t1, _, _, _, e, rfl, SqT.of ht1, rfl, q2, rfl, ⟨_, hq2.sq⟩, ?_⟩
              refine RU.out_it (walk_tup (xs := (u.kids.map (num m)).map V.int)) (fun j H' => Same H6 H' ∧ FzT H' q2 ((u.kids.map (num m)).map V.int) ∧ H' N2 = some (.lst (((kidsF (F.take i) ++ u.kids.take j).map (num m)).map V.int))) ⟨s7, hq2, by rw [List.take_zero, List.append_nil]; exact hN7⟩ (fun j H' _ z => z.2.1.sq) ?_ ?_
              · rintro j x H9 Ha hj ⟨s9, hq9, hN9⟩ ⟨rfl, hx⟩
                obtain ⟨n, hn, rfl⟩ := map_at hx
                obtain ⟨k, hk, rfl⟩ := map_at hn
                refine ⟨rfl, ?_⟩
                dsimp only [tYes]
                rw [if_pos rfl]
                refine ⟨_, rfl, _, hN9, ?_, same_upd s9 hN2, ?_, ?_⟩
                · rw [List.length_map, List.length_map, List.length_append, List.length_take]
                  exact Nat.lt_of_le_of_lt (by omega : _ ≤ 1000) (by decide)
                · exact hq9.keep ((Keep.refl _).upd fun u e => by rw [hN9] at e; cases e; rfl)
                · rw [upd_same, take_more hk]
                  simp
              · rintro H9 ⟨s9, hq9, hN9⟩
                rw [List.length_map, List.length_map, List.take_length] at hN9
                refine ⟨s9, ?_⟩
                have e5 : kidsF (F.take (i + 1)) = kidsF (F.take i) ++ u.kids := by
                  unfold kidsF
                  rw [take_more hu, List.flatMap_append]
                  simp
                rw [e5]
                exact hN9
            · rintro H7 ⟨s7, hN7⟩
              rw [List.length_map, List.take_length] at hN7
              have s57 := s6.trans s7
              refine ⟨N2, (kidsF F).map (num m), _, _, _, _, done ++ [F.map (num (m + 1))], rfl, s5.trans s57, ?_, hN7, ?_, hlv5.same s57, .inr ⟨m, kidsF F, rfl, rfl, ?_, ?_, ?_, ?_⟩⟩
              · obtain ⟨vs5, h5, _⟩ := hlv5
                exact (ne_of_none (s6 _ _ h5) hN2).symm
              · rw [List.flatten_append, List.flatten_cons, List.flatten_nil, List.append_nil]
                exact s57 _ _ hds5
              · intro z
                cases F with
                | nil => exact hF rfl
                | cons u F =>
                  have h1 := (hFK u (List.mem_cons_self ..)).2.2.1
                  have h2 : u.kids ++ kidsF F = [] := z
                  rw [(List.append_eq_nil_iff.mp h2).1] at h1
                  cases h1
              · intro k hk
                obtain ⟨u, hu, hk⟩ := List.mem_flatMap.mp hk
                exact (hFL u hu).2 k hk
              · intro k hk
                obtain ⟨u, hu, hk⟩ := List.mem_flatMap.mp hk
                exact (hFK u hu).2.2.2 k hk
              · rw [List.append_assoc, ← hdone]
                rfl
end
end K12

namespace K12
open PySem PySem.Spec PyProof.Rows L2 RZ HX TR
theorem fit_root {S : List (Int × Pg)} {room : Nat} {top : Bool} : ∀ {l : Nat} {t : Tr l}, Laid S l t → WfSh room l top (shp l t) → ∃ g, lkp S (num l t) = some g ∧ loS room l top ≤ Pg.parts g ∧ Pg.parts g ≤ room ∧ (Pg.isLeaf g = decide (l = 0))
  | 0, t, ⟨nx, h⟩, w => ⟨_, h, w.1, w.2, rfl⟩
  | l + 1, t, ⟨h, _⟩, w => by
    have e : (shp (l + 1) t).ks.length = t.kids.length := List.length_map ..
    have w1 := w.1
    have w2 := w.2.1
    rw [e] at w1 w2
    refine ⟨_, h, ?_, ?_, rfl⟩
    · show _ ≤ (t.kids.map (num l)).length
      rw [List.length_map]
      exact w1
    · show (t.kids.map (num l)).length ≤ _
      rw [List.length_map]
      exact w2
theorem fit_all {S : List (Int × Pg)} {room : Nat} : ∀ {l : Nat} {top : Bool} {t : Tr l}, Laid S l t → WfSh room l top (shp l t) → ∀ k ∈ nums l t, k = num l t ∨ ∃ g, lkp S k = some g ∧ (room + 1) / 2 ≤ Pg.parts g ∧ Pg.parts g ≤ room
  | 0, _, t, _, _, k, hk => .inl (List.mem_singleton.mp hk)
  | l + 1, _, t, ⟨_, hl⟩, w, k, hk => by
    rcases List.mem_cons.mp hk with hk | hk
    · exact .inl hk
    · obtain ⟨u, hu, hk⟩ := List.mem_flatMap.mp hk
      have wu : WfSh room l false (shp l u) := w.2.2 _ (List.mem_map_of_mem hu)
      refine .inr ?_
      rcases fit_all (hl u hu) wu k hk with e | h
      · obtain ⟨g, h1, h2, h3, _⟩ := fit_root (hl u hu) wu
        exact ⟨g, by rw [e]; exact h1, h2, h3⟩
      · exact h
section
variable {P : Program} {w : World} {K : PySem.W.Frag} {mg : Str → Option Value} {base : Heap}
def sp_sizes_fit : Sp := fun vs H Q _ => ∃ (room l : Nat) (t : Tr l) (S : List (Int × Pg)) (d : Addr), vs = [.int (room : Int), .int (num l t), .ref d] ∧ DctAt H d S ∧ Laid S l t ∧ WfSh room l true (shp l t) ∧ (nums l t).Nodup ∧ (S.map (·.1)).Perm (nums l t) ∧
  ∀ H', Same H H' → Q (.bl true) H'
theorem ok_sizes_fit (T : TX K mg) : FnOk P w K mg base CX0 2 (He.ga K "sizes_fit") T.fd_sizes_fit ["room", "root", "pages"] sp_sizes_fit := by
  have G_half_of : FnOk P w K mg base CX0 1 (He.ga K "half_of") T.fd_half_of ["room"] sp_half_of := ok_half_of T
  have b_half_of := b_half_of T
  have G_parts_of : FnOk P w K mg base CX0 1 (He.ga K "parts_of") T.fd_parts_of ["page"] (sp_parts_of K) := ok_parts_of T
  have b_parts_of := b_parts_of T
  refine T.F_sizes_fit.ok sc_sizes_fit (fun vs H Q E h => ?_) (fun cdv A outer st H vs Q E hr h => ?_)
  · obtain ⟨room, l, t, S, d, rfl, _⟩ := h
    rfl
  · obtain ⟨room, l, t, S, d, rfl, ⟨es, hd, hde⟩, hL, hW, nd, perm, kq⟩ := h
    refine ⟨_, PSs.nox (pss_cons (ps_lock (ps_for PassesOwn.never rfl (pi_items (pv 2)) (pg_tup rfl (pgs_cons (pg_name (i := 3) sc_sizes_fit.nd rfl (Or.inl rfl)) (pgs_cons (pg_name (i := 4) sc_sizes_fit.nd rfl (Or.inl rfl)) pgs_nil)))
 (pss_cons (ps_set (i := 5) sc_sizes_fit.nd rfl (Or.inl rfl) (pe_call G_half_of (hr.mono (by first | decide | omega)) rfl T.g_half_of T.F_half_of.kp b_half_of .nil pass0 (pa_cons (pv 0) pa_nil)))
 (Evl.pss_cut (ps_if (pt_cmpR op_eq (pv 3) (pv 1) (nomark _))
 (pss_one (ps_set (i := 5) sc_sizes_fit.nd rfl (Or.inl rfl) (pe_ifExp (pt_cmpR op_eq (pe_ix ix_tup (pv 4) pe_int (fun _ _ => rfl)) pe_str (nomark _)) pe_int pe_int)))
 pss_nil)
 (pss_one (ps_if (pt_not (pt_chain op_le op_le (pv 5) (pe_callB call_len_seq rfl T.n_len PySem.boot_len (pa_cons (pe_call G_parts_of (hr.mono (by first | decide | omega)) rfl T.g_parts_of T.F_parts_of.kp b_parts_of .nil pass0 (pa_cons (pv 4) pa_nil)) pa_nil)) (pv 0)))
 (pss_one (ps_ret pe_bl))
 pss_nil))))))
 (pss_one (ps_ret pe_bl))), ?_⟩
    refine ⟨d, .dK es, hd, ?_, fun od => ?_⟩
    · exact True.intro
    have hdf : upd H d (.frz od (.dK es)) d = some (.frz od (.dK es)) := upd_same
    have sf : ∀ b o, b ≠ d → H b = some o → upd H d (.frz od (.dK es)) b = some o := fun b o n e => by rw [upd_ne n]; exact e
    generalize upd H d (.frz od (.dK es)) = H1 at hdf sf
    refine ⟨_, rfl, d, od, es, rfl, hdf, ?_⟩
    refine for_it (walk_items (kvs := es)) (fun i σ H' => ∃ v3 v4 v5, σ = [some (.int (room : Int)), some (.int (num l t)), some (.ref d), v3, v4, v5] ∧ Same H1 H') ⟨_, _, _, rfl, Same.refl H1⟩ (fun i σ H' _ z => ?_) ?_ ?_
    · obtain ⟨_, _, _, _, z⟩ := z
      exact z _ _ hdf
    · rintro i x σ H2 H3 hi ⟨v3, v4, v5, rfl, s2⟩ ⟨tz, x1, x2, rfl, htz, rfl, e1, e2⟩
      obtain ⟨e, he⟩ : ∃ e, es[i]? = some e := ⟨_, List.getElem?_eq_getElem hi⟩
      obtain ⟨q, hq, r1, r2⟩ := pget1 hde he
      have hq2 := List.mem_of_getElem? hq
      have ndS : (S.map (·.1)).Nodup := perm.nodup_iff.mpr nd
      have hk : lkp S q.1 = some q.2 := mem_lkp ndS hq2
      have hn : q.1 ∈ nums l t := perm.mem_iff.mp (List.mem_map_of_mem hq2)
      dsimp only at e1 e2
      rw [he] at e1 e2
      obtain rfl := Option.some.inj e1
      obtain rfl := Option.some.inj e2
      obtain ⟨ek, ev⟩ := e
      dsimp only at r1 r2
      subst r1
      have k13 : Keep H (upd H2 tz (.tup [kV (.inl q.1), ev])) := ⟨fun b u tu e => same_new htz _ _ (s2 _ _ (sf b _ (fun z => by rw [z, hd] at e; cases e; cases tu) e))⟩
      have r3 := r2.keep k13
      have s3 : Same H1 (upd H2 tz (.tup [kV (.inl q.1), ev])) := s2.trans (same_new htz)
      have ht3 : upd H2 tz (.tup [kV (.inl q.1), ev]) tz = some (.tup [kV (.inl q.1), ev]) := upd_same
      generalize upd H2 tz (.tup [kV (.inl q.1), ev]) = H3 at r3 s3 ht3
      refine ⟨tz, _, rfl, SqT.of ht3, rfl, _, _, rfl, _, _, rfl, rfl, ?_⟩
      refine ⟨_, rfl, room, rfl, ?_⟩
      refine ⟨fun σ' H' => ∃ least : Nat, σ' = [some (.int (room : Int)), some (.int (num l t)), some (.ref d), some (.int q.1), some ev, some (.int (least : Int))] ∧ H' = H3 ∧ least ≤ Pg.parts q.2 ∧ Pg.parts q.2 ≤ room, ?_, ?_⟩
      · refine ⟨_, rfl, _, rfl, rfl, _, rfl, ?_⟩
        obtain ⟨k, g⟩ := q
        by_cases c : k = num l t
        · have e3 : decide (V.int k = V.int (num l t)) = true := decide_eq_true (by rw [c])
          refine (congrArg (fun b => (if b = true then _ else _)) e3).mpr (iteT ?_)
          obtain ⟨g', h1, h2, h3, h4⟩ := fit_root hL hW
          rw [← c, hk] at h1
          cases h1
          cases g with
          | leaf ps nx =>
            obtain ⟨t1, q1, rfl, ht1, _⟩ := r3
            refine ⟨_, rfl, t1, _, _, _, rfl, rfl, SqT.of ht1, rfl, rfl, _, rfl, iteT ?_⟩
            exact ⟨0, rfl, rfl, Nat.zero_le _, h3⟩
          | node ks kids =>
            obtain ⟨t1, q1, q2, rfl, ht1, _⟩ := r3
            refine ⟨_, rfl, t1, _, _, _, rfl, rfl, SqT.of ht1, rfl, rfl, _, rfl, iteF ?_⟩
            have l0 : ¬ l = 0 := of_decide_eq_false h4.symm
            refine ⟨2, rfl, rfl, ?_, h3⟩
            unfold loS at h2
            rw [if_pos rfl, if_neg l0] at h2
            exact h2
        · have e3 : decide (V.int k = V.int (num l t)) = false := decide_eq_false fun z => c (by injection z)
          refine (congrArg (fun b => (if b = true then _ else _)) e3).mpr (iteF ?_)
          rcases fit_all hL hW k hn with z | ⟨g', h1, h2, h3⟩
          · exact (c z).elim
          · rw [hk] at h1
            cases h1
            exact ⟨_, rfl, rfl, h2, h3⟩
      · rintro σ' H' ⟨least, rfl, rfl, h1, h2⟩
        refine ⟨_, rfl, _, rfl, ev, q.2, rfl, r3, fun a xs ha hx => ⟨a, _, rfl, .inr ha, _, _, rfl, rfl, true, congrArg V.bl (decide_eq_true (by omega)), iteT ?_⟩⟩
        refine ⟨_, rfl, _, _, rfl, rfl, true, congrArg V.bl (decide_eq_true (by omega)), iteF ?_⟩
        exact ⟨_, _, _, rfl, s3⟩
    · rintro σ H2 ⟨v3, v4, v5, rfl, s2⟩
      refine ⟨s2 _ _ hdf, kq _ fun b o e => ?_⟩
      by_cases c : b = d
      · subst c
        rw [hd] at e
        rw [upd_same]
        exact e
      · rw [upd_ne c]
        exact s2 _ _ (sf _ _ c e)
end
end K12

namespace K12
open PySem PySem.Spec PyProof.Rows L2 RZ HX TR
section
variable {P : Program} {w : World} {K : PySem.W.Frag} {mg : Str → Option Value} {base : Heap}
def sp_nexts_fit : Sp := fun vs H Q _ => ∃ (L : List Int) (S : List (Int × Pg)) (a d : Addr), vs = [.ref a, .ref d] ∧ H a = some (.lst (L.map V.int)) ∧ DctAt H d S ∧ NextOk S L L.length ∧ L ≠ [] ∧ L.length ≤ 1000 ∧ ∀ H', Same H H' → Q (.bl true) H'
theorem ok_nexts_fit (T : TX K mg) : FnOk P w K mg base CX0 1 (He.ga K "nexts_fit") T.fd_nexts_fit ["leaves", "pages"] sp_nexts_fit := by
  refine T.F_nexts_fit.ok sc_nexts_fit (fun vs H Q E h => ?_) (fun cdv A outer st H vs Q E hr h => ?_)
  · obtain ⟨L, S, a, d, rfl, _⟩ := h
    rfl
  · obtain ⟨L, S, a, d, rfl, ha, hd, hN, hne, few, kq⟩ := h
    refine ⟨_, PSs.nox (pss_cons (ps_setLc (i := 2) (own := [("number", 3)]) (g := gName 3) (tt := tYes) rfl sc_nexts_fit.nd rfl rfl (sw_true rfl rfl rfl (by decide +kernel)) (pi_list (pv 0)) (blkOk_by (own := [("number", 3)]) (N := ["leaves", "pages", "nexts", "number"]) (sc := defScope s_nexts_fit) (by decide +kernel)) (fun _ _ _ _ _ => (pg_name (i := 3) sc_nexts_fit.nd rfl (Or.inl rfl))) (fun _ _ _ _ _ => pts_nil) (fun _ _ _ _ _ => (pe_ix (ixt K) (pe_dget (hu_of hr) (pv 1) (pv 3) (fun _ _ => rfl)) pe_int (fun _ _ => rfl))))
 (pss_one (ps_ret (pe_cmpR (op_eqD hr.units) (pv 2) (pe_lst (StX.pa_star (pe_slice sl_list (pv 0) (po_some pe_int) po_none) (pa_cons pe_int pa_nil))) (nomark _))))), ?_⟩
    refine ⟨_, rfl, a, rfl, ⟨_, SqL.of ha⟩, fun D hD => ?_⟩
    refine lc_it (walk_list (xs := L.map V.int)) (fun i H' => Same H H' ∧ H' D = some (.lst (((L.drop 1 ++ [0]).take i).map V.int))) ⟨same_new hD, upd_same⟩ (fun i H' _ z => SqL.of (z.1 _ _ ha)) ?_ ?_
    · rintro i x H3 H4 hi ⟨s3, hD3⟩ ⟨rfl, hx⟩
      obtain ⟨n, hn, rfl⟩ := map_at hx
      rw [List.length_map] at hi
      obtain ⟨ps, hk⟩ := hN i n hi hn
      obtain ⟨v, hv, t1, q, rfl, ht1, _⟩ := (hd.same s3).get hk
      refine ⟨rfl, ?_⟩
      dsimp only [tYes]
      rw [if_pos rfl]
      refine ⟨_, rfl, _, rfl, d, _, rfl, hv, t1, _, _, _, rfl, rfl, SqT.of ht1, rfl, _, hD3, ?_, same_upd s3 hD, ?_⟩
      · rw [List.length_map, List.length_take]
        exact Nat.lt_of_le_of_lt (by omega : _ ≤ 1000) (by decide)
      · rw [upd_same, take_more (foll hi), List.map_append]
        rfl
    · rintro H3 ⟨s3, hD3⟩
      have e0 : (L.map V.int).length = (L.drop 1 ++ [0]).length := by
        have : 0 < L.length := List.length_pos_iff.mpr hne
        rw [List.length_map, List.length_append, List.length_drop]
        show _ = _ - 1 + 1
        omega
      rw [e0, List.take_length] at hD3
      have ecut : cutV (L.map V.int) (some 1) none = (L.drop 1).map V.int := by
        rw [List.map_drop]
        exact cut_from' (n := 1)
      refine ⟨_, rfl, _, rfl, 1, rfl, a, _, rfl, SqL.of (s3 _ _ ha), fun b hb => ?_⟩
      rw [ecut]
      have s4 := s3.trans (same_new (o := .lst ((L.drop 1).map V.int)) hb)
      have hD4 := same_new (o := .lst ((L.drop 1).map V.int)) hb _ _ hD3
      refine ⟨b, _, rfl, .inr (SqL.of upd_same), ?_, fun c hc => ?_⟩
      · rw [List.length_append, List.length_map, List.length_drop]
        exact Nat.le_trans (by show _ + 1 ≤ 1001; omega) (by decide)
      have e1 : ((L.drop 1).map V.int ++ [V.int 0]) = (L.drop 1 ++ [0]).map V.int := by rw [List.map_append]; rfl
      rw [e1]
      generalize upd H3 b (.lst ((L.drop 1).map V.int)) = H4 at s4 hD4 hc
      refine ⟨.list ((L.drop 1 ++ [0]).map PyData.int), .list ((L.drop 1 ++ [0]).map PyData.int), .lst (SqL.of (same_new hc _ _ hD4)) (dpa_ints _), .lst (SqL.of upd_same) (dpa_ints _), shaped_ints _, shaped_ints _, ?_⟩
      rw [eqv_ints, decide_eq_true rfl]
      exact kq _ (s4.trans (same_new hc))
end
end K12

namespace K12
open PySem PySem.Spec PyProof.Rows L2 RZ HX TR
section
variable {P : Program} {w : World} {K : PySem.W.Frag} {mg : Str → Option Value} {base : Heap}
def sp_need_key : Sp := fun vs H Q _ => ∃ k : Int, vs = [.int k] ∧ 0 ≤ k ∧ k ≤ 1000000000 ∧ Q .non H
theorem ok_need_key (T : TX K mg) : FnOk P w K mg base CX0 4 (He.ga K "need_key") T.fd_need_key ["thing"] sp_need_key := by
  have G_is_key : FnOk P w K mg base CX0 3 (He.ga K "is_key") T.fd_is_key ["thing"] (sp_rng 0 1000000000) := ok_is_key T
  have b_is_key := b_is_key T
  refine T.F_need_key.ok sc_need_key (fun vs H Q E h => ?_) (fun cdv A outer st H vs Q E hr h => ?_)
  · obtain ⟨k, rfl, _⟩ := h
    rfl
  · obtain ⟨k, rfl, h0, h1, kq⟩ := h
    refine ⟨_, PSs.nox (pss_one (ps_if (pt_not (pt_val (pe_call G_is_key (hr.mono (by first | decide | omega)) rfl T.g_is_key T.F_is_key.kp b_is_key .nil pass0 (pa_cons (pv 0) pa_nil))))
 (pss_one ps_never)
 pss_nil)), ?_⟩
    refine ⟨_, rfl, k, rfl, ?_⟩
    rw [decide_eq_true h0, decide_eq_true h1]
    exact ⟨true, rfl, iteF kq⟩
end
end K12

namespace K12
open PySem PySem.Spec PyProof.Rows L2 RZ HX TR
theorem KBs.at {α : Type} {R : α → Int → Int → Prop} {hi : Int} : ∀ {kids : List α} {ks : List Int} {lo : Int}, KBs R lo ks kids hi → ∀ {i : Nat} {k : α}, kids[i]? = some k → ∃ a b, (lo :: ks)[i]? = some a ∧ (ks ++ [hi])[i]? = some b ∧ R k a b
  | [], ks, _, h, _, _, _ => by cases ks <;> exact h.elim
  | [x], [], lo, h, i, k, e => by
    cases i with
    | zero => cases e; exact ⟨lo, hi, rfl, rfl, h⟩
    | succ i => simp at e
  | _ :: _ :: _, [], _, h, _, _, _ => h.elim
  | x :: kids, c :: ks, lo, h, i, k, e => by
    cases i with
    | zero => cases e; exact ⟨lo, c, rfl, rfl, h.1⟩
    | succ i => exact KBs.at h.2 (i := i) e
def Has (H : Hp) (b : Addr) (k lo hi : Int) : Prop := ∃ es t', H b = some (.dK es) ∧ valV es (.inl k) = some (.ref t') ∧ H t' = some (.tup [.int lo, .int hi])
theorem Has.same {H H' : Hp} {b : Addr} {k lo hi : Int} (s : Same H H') (h : Has H b k lo hi) : Has H' b k lo hi := by
  obtain ⟨es, t', h1, h2, h3⟩ := h
  exact ⟨es, t', s _ _ h1, h2, s _ _ h3⟩
theorem Has.put {H : Hp} {b : Addr} {k k' lo hi : Int} {es : List (Key × V)} {v : V} (h : Has H b k lo hi) (e : H b = some (.dK es)) (n : k ≠ k') : Has (upd H b (.dK (putK es (.inl k') v))) b k lo hi := by
  obtain ⟨es', t', h1, h2, h3⟩ := h
  rw [e] at h1
  cases h1
  refine ⟨_, t', upd_same, ?_, ?_⟩
  · rw [valV_put, if_neg (fun z => n (by injection z))]
    exact h2
  · rw [upd_ne (fun z => by rw [z, e] at h3; cases h3)]
    exact h3
theorem Has.new {H : Hp} {b t' : Addr} {k lo hi : Int} {es : List (Key × V)} (e : H b = some (.dK es)) (ht : H t' = some (.tup [.int lo, .int hi])) : Has (upd H b (.dK (putK es (.inl k) (.ref t')))) b k lo hi := by
  refine ⟨_, t', upd_same, ?_, ?_⟩
  · rw [valV_put, if_pos rfl]
  · rw [upd_ne (fun z => by rw [z, e] at ht; cases ht)]
    exact ht
def BK (H : Hp) (b : Addr) (m : Nat) (u : Tr m) : Prop := ∃ lo hi, Has H b (num m u) lo hi ∧ KeyB m u lo hi
theorem BK.same {H H' : Hp} {b : Addr} {m : Nat} {u : Tr m} (s : Same H H') (h : BK H b m u) : BK H' b m u := by
  obtain ⟨lo, hi, h1, h2⟩ := h
  exact ⟨lo, hi, h1.same s, h2⟩
theorem BK.put {H : Hp} {b : Addr} {m : Nat} {u : Tr m} {k' : Int} {es : List (Key × V)} {v : V} (h : BK H b m u) (e : H b = some (.dK es)) (n : num m u ≠ k') : BK (upd H b (.dK (putK es (.inl k') v))) b m u := by
  obtain ⟨lo, hi, h1, h2⟩ := h
  exact ⟨lo, hi, h1.put e n, h2⟩
theorem cut_last {xs : List V} {n : Nat} (h : xs.length = n + 1) : cutV xs none (some (-1)) = xs.take n := by
  have e1 : HT.sIx xs.length 0 none = 0 := rfl
  have e2 : HT.sIx xs.length xs.length (some (-1)) = n := by
    show (if (-1 : Int) < 0 then ((-1 : Int) + (xs.length : Int)).toNat else min (-1 : Int).toNat xs.length) = n
    rw [if_pos (by decide)]
    omega
  unfold cutV
  rw [e1, e2]
  rfl
section
variable {P : Program} {w : World} {K : PySem.W.Frag} {mg : Str → Option Value} {base : Heap}
/-- what the last row's pages may hold -/
def BndAt (H : Hp) (b : Addr) (F : List (Tr 0)) : Prop := ∀ u ∈ F, BK H b 0 u
def sp_bounds_of : Sp := fun vs H Q _ => ∃ (l : Nat) (t : Tr l) (S : List (Int × Pg)) (lv d : Addr), vs = [.ref lv, .ref d] ∧ LevAt H lv (rows l [t]) ∧ DctAt H d S ∧ Laid S l t ∧ KeyOk l t ∧ KeyB l t 0 1000000001 ∧ (nums l t).Nodup ∧ (nums l t).length ≤ 1000 ∧ l ≤ 100 ∧
  ∀ (H' : Hp) (b : Addr) (F : List (Tr 0)), Same H H' → (rows l [t]).getLast? = some (F.map (num 0)) → (∀ u ∈ F, Laid S 0 u) → BndAt H' b F → Q (.ref b) H'
theorem ok_bounds_of (T : TX K mg) : FnOk P w K mg base CX0 1 (He.ga K "bounds_of") T.fd_bounds_of ["levels", "pages"] sp_bounds_of := by
  refine T.F_bounds_of.ok sc_bounds_of (fun vs H Q E h => ?_) (fun cdv A outer st H vs Q E hr h => ?_)
  · obtain ⟨l, t, S, lv, d, rfl, _⟩ := h
    rfl
  · obtain ⟨l, t, S, lv, d, rfl, ⟨vs, hlv, hvs⟩, ⟨es, hd, hde⟩, hL, hK, hB, nd, few, hl, kq⟩ := h
    refine ⟨_, PSs.nox (pss_cons (ps_set (i := 2) sc_bounds_of.nd rfl (Or.inl rfl) (RU.pe_dict1 (pe_ix ix_list (pe_ix ix_list (pv 0) pe_int (fun _ _ => rfl)) pe_int (fun _ _ => rfl)) (pe_tup (pa_cons pe_int (pa_cons (pe_op op_add (pe_gint T.g_GREATEST) pe_int) pa_nil)))))
 (pss_cons (ps_for PassesOwn.never rfl (pi_list (pe_slice sl_list (pv 0) po_none (po_some (pe_un un_neg pe_int)))) (pg_name (i := 3) sc_bounds_of.nd rfl (Or.inl rfl))
 (pss_one (ps_for PassesOwn.never rfl (pi_list (pv 3)) (pg_name (i := 4) sc_bounds_of.nd rfl (Or.inl rfl))
 (pss_cons (ps_asg (pe_dget (hu_of hr) (pv 2) (pv 4) (fun _ _ => rfl)) (pg_tup rfl (pgs_cons (pg_name (i := 5) sc_bounds_of.nd rfl (Or.inl rfl)) (pgs_cons (pg_name (i := 6) sc_bounds_of.nd rfl (Or.inl rfl)) pgs_nil))))
 (pss_cons (ps_asg (pe_dget (hu_of hr) (pv 1) (pv 4) (fun _ _ => rfl)) (pg_tup rfl (pgs_cons (pg_name (i := 7) sc_bounds_of.nd rfl (Or.inl rfl)) (pgs_cons (pg_name (i := 8) sc_bounds_of.nd rfl (Or.inl rfl)) (pgs_cons (pg_name (i := 9) sc_bounds_of.nd rfl (Or.inl rfl)) pgs_nil)))))
 (pss_one (ps_for PassesOwn.never rfl (RU.pi_zip3 rfl T.n_zip (pa_cons (pv 9) (pa_cons (pe_tup (pa_cons (pv 5) (StX.pa_star (pv 8) pa_nil))) (pa_cons (pe_tup (StX.pa_star (pv 8) (pa_cons (pv 6) pa_nil))) pa_nil)))) (pg_tup rfl (pgs_cons (pg_name (i := 10) sc_bounds_of.nd rfl (Or.inl rfl)) (pgs_cons (pg_name (i := 11) sc_bounds_of.nd rfl (Or.inl rfl)) (pgs_cons (pg_name (i := 12) sc_bounds_of.nd rfl (Or.inl rfl)) pgs_nil))))
 (pss_one (ps_dput (hu_of hr) (pv 2) (pv 10) (pe_tup (pa_cons (pv 11) (pa_cons (pv 12) pa_nil))) rfl)))))))))
 (pss_one (ps_ret (pv 2))))), ?_⟩
    have hRlen : (rows l [t]).flatten.Perm (nums l t) := by
      have z := rows_perm [t]
      simpa using z
    have ndR : (rows l [t]).flatten.Nodup := hRlen.nodup_iff.mpr nd
    have lenR := hRlen.length_eq
    obtain ⟨r, hr1⟩ := rows_cons [t]
    have hvl : vs.length = l + 1 := by rw [Paired.length hvs, rows_len]
    obtain ⟨x0, hx0, a0, e0, _, ha0⟩ := pget2 hvs (i := 0) (y := [num l t]) (by rw [hr1]; rfl)
    subst e0
    refine fun b hb => ?_
    have sb : Same H (upd H b (.dK [])) := same_new hb
    have hb1 : upd H b (.dK []) b = some (.dK []) := upd_same
    generalize upd H b (.dK []) = H1 at sb hb1
    refine ⟨_, rfl, lv, _, _, _, rfl, rfl, SqL.of (sb _ _ hlv), at_of hx0 rfl, a0, _, _, _, rfl, rfl, SqL.of (sb _ _ ha0), rfl, _, _, rfl, rfl, by show 2 ≤ sizeLine; decide, fun t' ht' => ?_⟩
    refine ⟨same_new ht' _ _ hb1, [(.inl (num l t), .ref t')], rfl, (show 1 ≤ 15 by decide), ?_⟩
    have ht2 : upd H1 t' (.tup [.int 0, .int 1000000001]) t' = some (.tup [.int 0, .int 1000000001]) := upd_same
    have hb2 := same_new (o := .tup [.int 0, .int 1000000001]) ht' _ _ hb1
    have s2 := sb.trans (same_new (o := .tup [.int 0, .int 1000000001]) ht')
    show gName 2 (.ref b) _ (L2.upd (upd H1 t' (.tup [.int 0, .int 1000000001])) b (.dK (putK [] (.inl (num l t)) (.ref t')))) _
    generalize upd H1 t' (.tup [.int 0, .int 1000000001]) = H2 at ht2 hb2 s2
    have hroot : Has (upd H2 b (.dK (putK [] (.inl (num l t)) (.ref t')))) b (num l t) 0 1000000001 := Has.new hb2 ht2
    have s3 : Same H (upd H2 b (.dK (putK [] (.inl (num l t)) (.ref t')))) := fun c o e => by
      rw [upd_ne (ne_of_none e hb)]
      exact s2 c o e
    have hb3 : upd H2 b (.dK (putK [] (.inl (num l t)) (.ref t'))) b = some (.dK [(.inl (num l t), .ref t')]) := upd_same
    generalize upd H2 b (.dK (putK [] (.inl (num l t)) (.ref t'))) = H3 at hroot s3 hb3
    refine ⟨_, rfl, 1, rfl, _, rfl, lv, _, rfl, SqL.of (s3 _ _ hlv), fun q hq => ?_⟩
    rw [cut_last hvl]
    have s4 : Same H3 (upd H3 q (.lst (vs.take l))) := same_new hq
    have hq4 : upd H3 q (.lst (vs.take l)) q = some (.lst (vs.take l)) := upd_same
    have nqb : q ≠ b := (ne_of_none hb3 hq).symm
    generalize upd H3 q (.lst (vs.take l)) = H4 at s4 hq4
    refine ⟨q, rfl, ⟨_, SqL.of hq4⟩, ?_⟩
    have hbk0 : BK H4 b l t := ⟨0, 1000000001, hroot.same s4, hB⟩
    have s04 : Same H H4 := s3.trans s4
    have bnd : ∀ {m : Nat} {done : List (List Int)} {F : List (Tr (m + 1))}, done ++ rows (m + 1) F = rows l [t] → done.flatten.length + F.length + (kidsF F).length ≤ 1000 := fun {m done F} e => by
      have z := lenR
      obtain ⟨r2, hr2⟩ := rows_cons (kidsF F)
      have e2 : rows (m + 1) F = F.map (num (m + 1)) :: rows m (kidsF F) := rfl
      rw [← e, e2, hr2, List.flatten_append, List.flatten_cons, List.flatten_cons] at z
      simp only [List.length_append, List.length_map] at z
      omega
    have fr : ∀ {H'}, (∀ c o, c ≠ b → H4 c = some o → H' c = some o) → Same H H' := fun f c o e => f c o (ne_of_none e hb) (s04 c o e)
    refine for_list (xs := vs.take l) (fun j σ H' => ∃ v3 v4 v5 v6 v7 v8 v9 v10 v11 v12, σ = [some (.ref lv), some (.ref d), some (.ref b), v3, v4, v5, v6, v7, v8, v9, v10, v11, v12] ∧ (∀ c o, c ≠ b → H4 c = some o → H' c = some o) ∧
      ∃ (m : Nat) (F : List (Tr m)) (done : List (List Int)) (es' : List (Key × V)), done.length = j ∧ done ++ rows m F = rows l [t] ∧ H' b = some (.dK es') ∧ es'.length ≤ done.flatten.length + F.length ∧ ∀ u ∈ F, Laid S m u ∧ KeyOk m u ∧ BK H' b m u)
      ⟨_, _, _, _, _, _, _, _, _, _, rfl, fun _ _ _ e => e, l, [t], [], _, rfl, rfl, s4 _ _ hb3, Nat.le_refl _, fun u hu => by rw [List.mem_singleton.mp hu]; exact ⟨hL, hK, hbk0⟩⟩ (fun j σ H' _ z => ?_) ?_ ?_
    · obtain ⟨_, _, _, _, _, _, _, _, _, _, _, f, _⟩ := z
      exact SqL.of (f _ _ nqb hq4)
    · rintro j x σ H5 hx ⟨v3, v4, v5, v6, v7, v8, v9, v10, v11, v12, rfl, f5, m0, F, done, es5, hj, hdone, hb5, hes5, hF⟩
      have hjl : j < l := by
        have z := (List.getElem?_eq_some_iff.mp hx).1
        rw [List.length_take] at z
        omega
      rw [List.getElem?_take_of_lt hjl] at hx
      obtain ⟨m, rfl⟩ : ∃ m, m0 = m + 1 := ⟨m0 - 1, by
        have z := congrArg List.length hdone
        rw [List.length_append, rows_len, rows_len] at z
        omega⟩
      have hrow : (rows l [t])[j]? = some (F.map (num (m + 1))) := by
        rw [← hdone, List.getElem?_append_right (by omega), hj, Nat.sub_self]
        rfl
      obtain ⟨x', hx', aj, rfl, _, haj⟩ := pget2 hvs hrow
      rw [hx'] at hx
      obtain rfl := Option.some.inj hx
      have naj : aj ≠ b := ne_of_none haj hb
      have haj5 := fr f5 _ _ haj
      have hb1000 := bnd hdone
      have hnd : (F.map (num (m + 1)) ++ (kidsF F).map (num m)).Nodup := by
        have z := ndR
        obtain ⟨r2, hr2⟩ := rows_cons (kidsF F)
        have e2 : rows (m + 1) F = F.map (num (m + 1)) :: rows m (kidsF F) := rfl
        rw [← hdone, e2, hr2, List.flatten_append, List.flatten_cons, List.flatten_cons, ← List.append_assoc (F.map _)] at z
        exact (List.nodup_append.mp (List.nodup_append.mp z).2.1).1
      refine ⟨_, rfl, aj, rfl, ⟨_, SqL.of haj5⟩, ?_⟩
      refine for_list (xs := (F.map (num (m + 1))).map V.int) (fun i σ H' => ∃ v4 v5 v6 v7 v8 v9 v10 v11 v12, σ = [some (.ref lv), some (.ref d), some (.ref b), some (.ref aj), v4, v5, v6, v7, v8, v9, v10, v11, v12] ∧ (∀ c o, c ≠ b → H4 c = some o → H' c = some o) ∧
        ∃ es', H' b = some (.dK es') ∧ es'.length ≤ done.flatten.length + F.length + (kidsF (F.take i)).length ∧ (∀ u ∈ F.drop i, BK H' b (m + 1) u) ∧ ∀ k ∈ kidsF (F.take i), BK H' b m k)
        ⟨_, _, _, _, _, _, _, _, _, rfl, f5, es5, hb5, by omega, fun u hu => (hF u hu).2.2, fun k hk => nomatch hk⟩ (fun i σ H' _ z => ?_) ?_ ?_
      · obtain ⟨_, _, _, _, _, _, _, _, _, _, f, _⟩ := z
        exact SqL.of (fr f _ _ haj)
      · rintro i x σ H6 hx ⟨v4, v5, v6, v7, v8, v9, v10, v11, v12, rfl, f6, es6, hb6, hes6, hd6, hk6⟩
        obtain ⟨n, hn, rfl⟩ := map_at hx
        obtain ⟨u, hu, rfl⟩ := map_at hn
        have mu := List.mem_of_getElem? hu
        have hiF := (List.getElem?_eq_some_iff.mp hu).1
        have edrop : F.drop i = u :: F.drop (i + 1) := by
          rw [List.drop_eq_getElem_cons hiF, (List.getElem?_eq_some_iff.mp hu).2]
        obtain ⟨lo, hi, ⟨es6', t6, hb6', hv6, ht6⟩, hKB⟩ := hd6 u (by rw [edrop]; exact List.mem_cons_self ..)
        rw [hb6] at hb6'
        cases hb6'
        obtain ⟨⟨hg, hgk⟩, hKu, _⟩ := hF u mu
        have hde6 := paired_imp (fun _ _ (r : EnAt H _ _) => (⟨r.1, r.2.keep (Keep.of (fr f6))⟩ : EnAt H6 _ _)) hde
        obtain ⟨hv, t1, q1, q2, e1, ht1, hq1, hq2⟩ := pgv_ok (fr f6 _ _ hd) hde6 hg
        have hkl : u.keys.length + 1 = u.kids.length := hKB.len
        have part : (kidsF (F.take i)).length + u.kids.length ≤ (kidsF F).length := by
          have z := sum_part1 (fun u : Tr (m + 1) => u.kids.length) hu
          have z2 : (kidsF F).length = (F.map fun u => u.kids.length).sum := List.length_flatMap
          have z3 : (kidsF (F.take i)).length = ((F.take i).map fun u => u.kids.length).sum := List.length_flatMap
          rw [z3, z2]
          exact z
        have ekF : kidsF F = kidsF (F.take i) ++ (u.kids ++ kidsF (F.drop (i + 1))) := by
          have z : F = F.take i ++ (u :: F.drop (i + 1)) := by rw [← edrop, List.take_append_drop]
          conv => lhs; rw [z]
          unfold kidsF
          rw [List.flatMap_append, List.flatMap_cons]
        refine ⟨_, rfl, _, rfl, b, .ref t6, rfl, hv6 ▸ DGet.k (k := .inl (num (m + 1) u)) hb6, t6, _, rfl, SqT.of ht6, rfl, _, _, rfl, _, _, rfl, rfl, ?_⟩
        refine ⟨_, rfl, _, rfl, d, _, rfl, hv, t1, _, e1, SqT.of ht1, rfl, _, _, rfl, _, _, rfl, _, _, rfl, rfl, ?_⟩
        refine ⟨_, rfl, _, rfl, _, rfl, q1, _, rfl, .inl (SqT.of hq1), ?_, fun y1 hy1 => ?_⟩
        · rw [List.length_cons, List.length_append, List.length_map]
          exact Nat.le_trans (by show _ ≤ 1001; simp only [List.length_nil]; omega) (by decide)
        have hy1' : upd H6 y1 (.tup (V.int lo :: (u.keys.map V.int ++ []))) y1 = some (.tup ((lo :: u.keys).map V.int)) := by
          rw [upd_same]
          simp
        have s7 : Same H6 (upd H6 y1 (.tup (V.int lo :: (u.keys.map V.int ++ [])))) := same_new hy1
        generalize upd H6 y1 (.tup (V.int lo :: (u.keys.map V.int ++ []))) = H7 at hy1' s7
        refine ⟨_, rfl, q1, _, rfl, .inl (SqT.of (s7 _ _ hq1)), _, rfl, ?_, fun y2 hy2 => ?_⟩
        · rw [List.length_append, List.length_map]
          exact Nat.le_trans (by show _ + 1 ≤ 1001; omega) (by decide)
        have hy2' : upd H7 y2 (.tup (u.keys.map V.int ++ [V.int hi])) y2 = some (.tup ((u.keys ++ [hi]).map V.int)) := by
          rw [upd_same, List.map_append]
          rfl
        have s8 := s7.trans (same_new (o := .tup (u.keys.map V.int ++ [V.int hi])) hy2)
        have hy18 := same_new (o := .tup (u.keys.map V.int ++ [V.int hi])) hy2 _ _ hy1'
        generalize upd H7 y2 (.tup (u.keys.map V.int ++ [V.int hi])) = H8 at hy2' s8 hy18
        have nb : ∀ {q : Addr} {xs : List V}, H8 q = some (.tup xs) → q ≠ b := fun {q xs} h e => by
          rw [e, s8 _ _ hb6] at h
          cases h
        refine ⟨q2, y1, y2, _, _, _, rfl, (hq2.same s8).sq, SqT.of hy18, SqT.of hy2', ?_⟩
        have lz : u.kids.length = min (min ((u.kids.map (num m)).map V.int).length ((lo :: u.keys).map V.int).length) ((u.keys ++ [hi]).map V.int).length := by
          simp only [List.length_map, List.length_append, List.length_cons, List.length_nil]
          omega
        refine for_it (RU.walk_zip3 lz) (fun j σ H' => ∃ v10 v11 v12, σ = [some (.ref lv), some (.ref d), some (.ref b), some (.ref aj), some (.int (num (m + 1) u)), some (.int lo), some (.int hi), some (.str "node"), some (.ref q1), some (.ref q2), v10, v11, v12] ∧ (∀ c o, c ≠ b → H8 c = some o → H' c = some o) ∧
          ∃ es', H' b = some (.dK es') ∧ es'.length ≤ done.flatten.length + F.length + (kidsF (F.take i)).length + j ∧ (∀ w ∈ F.drop (i + 1), BK H' b (m + 1) w) ∧ ∀ k ∈ kidsF (F.take i) ++ u.kids.take j, BK H' b m k)
          ⟨_, _, _, rfl, fun _ _ _ e => e, es6, s8 _ _ hb6, hes6, fun w hw => (hd6 w (by rw [edrop]; exact List.mem_cons_of_mem _ hw)).same s8, fun k hk => (hk6 k (by rw [List.take_zero, List.append_nil] at hk; exact hk)).same s8⟩ (fun j σ H' _ z => ?_) ?_ ?_
        · obtain ⟨_, _, _, _, f, _⟩ := z
          exact ⟨(FzT.keep (Keep.but (p := b) f fun u e => by rw [s8 _ _ hb6] at e; cases e; rfl) (hq2.same s8)).sq, SqT.of (f _ _ (nb hy18) hy18), SqT.of (f _ _ (nb hy2') hy2')⟩
        · rintro j x σ H9 Ha hj ⟨v10, v11, v12, rfl, f9, es9, hb9, hes9, hd9, hk9⟩ ⟨tz, x1, x2, x3, rfl, htz, rfl, g1, g2, g3⟩
          obtain ⟨n, hn, rfl⟩ := map_at g1
          obtain ⟨k, hk, rfl⟩ := map_at hn
          obtain ⟨a', b', ha', hb', hR⟩ := KBs.at hKB hk
          obtain ⟨a2, ha2, rfl⟩ := map_at g2
          obtain ⟨b2, hb2, rfl⟩ := map_at g3
          rw [ha'] at ha2
          rw [hb'] at hb2
          obtain rfl := Option.some.inj ha2
          obtain rfl := Option.some.inj hb2
          refine ⟨tz, _, rfl, SqT.of upd_same, rfl, _, _, rfl, _, _, rfl, _, _, rfl, rfl, ?_⟩
          refine ⟨_, rfl, _, rfl, by show 2 ≤ sizeLine; decide, fun t7 ht7 => ?_⟩
          have sA := (same_new (o := .tup [V.int (num m k), .int a', .int b']) htz).trans (same_new (o := .tup [.int a', .int b']) ht7)
          have ht7' : upd (upd H9 tz (.tup [V.int (num m k), .int a', .int b'])) t7 (.tup [.int a', .int b']) t7 = some (.tup [.int a', .int b']) := upd_same
          generalize upd (upd H9 tz (.tup [V.int (num m k), .int a', .int b'])) t7 (.tup [.int a', .int b']) = HB at sA ht7'
          have hbB := sA _ _ hb9
          refine ⟨_, rfl, _, rfl, b, _, rfl, DPut.k (k := .inl (num m k)) hbB ?_, ?_⟩
          · exact Nat.lt_of_le_of_lt (by omega : es9.length ≤ 1000) (by decide)
          have mk : k ∈ u.kids := List.mem_of_getElem? hk
          have mkF : num m k ∈ (kidsF F).map (num m) := List.mem_map_of_mem (List.mem_flatMap.mpr ⟨u, mu, mk⟩)
          refine ⟨_, _, _, rfl, fun c o nc e => ?_, _, upd_same, ?_, fun w hw => ?_, fun k' hk' => ?_⟩
          · rw [upd_ne nc]
            exact sA _ _ (f9 c o nc e)
          · have := length_putK es9 (.inl (num m k)) (V.ref t7)
            omega
          · refine ((hd9 w hw).same sA).put hbB fun e => ?_
            have mw : num (m + 1) w ∈ F.map (num (m + 1)) := List.mem_map_of_mem (List.mem_of_mem_drop hw)
            rw [e] at mw
            exact (List.nodup_append.mp hnd).2.2 _ mw _ mkF rfl
          · rw [take_more hk, ← List.append_assoc] at hk'
            rcases List.mem_append.mp hk' with hk' | hk'
            · refine ((hk9 k' hk').same sA).put hbB fun e => ?_
              have z := (List.nodup_append.mp hnd).2.1
              have ek : kidsF F = (kidsF (F.take i) ++ u.kids.take j) ++ (k :: (u.kids.drop (j + 1) ++ kidsF (F.drop (i + 1)))) := by
                have z2 : u.kids = u.kids.take j ++ (k :: u.kids.drop (j + 1)) := by
                  have hjl := (List.getElem?_eq_some_iff.mp hk).1
                  have z3 : u.kids.drop j = k :: u.kids.drop (j + 1) := by rw [List.drop_eq_getElem_cons hjl, (List.getElem?_eq_some_iff.mp hk).2]
                  rw [← z3, List.take_append_drop]
                rw [ekF]
                conv => lhs; rw [z2]
                simp
              rw [ek, List.map_append, List.map_cons] at z
              exact (List.nodup_append.mp z).2.2 _ (List.mem_map_of_mem hk') _ (List.mem_cons_self ..) e
            · obtain rfl := List.mem_singleton.mp hk'
              exact ⟨a', b', Has.new hbB ht7', hR⟩
        · rintro σ H9 ⟨v10, v11, v12, rfl, f9, es9, hb9, hes9, hd9, hk9⟩
          rw [List.take_length] at hk9
          refine ⟨_, _, _, _, _, _, _, _, _, rfl, fun c o nc e => f9 _ _ nc (s8 _ _ (f6 c o nc e)), es9, hb9, ?_, hd9, ?_⟩
          · have e9 : (kidsF (F.take (i + 1))).length = (kidsF (F.take i)).length + u.kids.length := by
              unfold kidsF
              rw [take_more hu, List.flatMap_append]
              simp
            omega
          · intro k hk
            refine hk9 k ?_
            unfold kidsF at hk ⊢
            rw [take_more hu, List.flatMap_append] at hk
            simpa using hk
      · rintro σ H6 ⟨v4, v5, v6, v7, v8, v9, v10, v11, v12, rfl, f6, es6, hb6, hes6, hd6, hk6⟩
        rw [List.length_map, List.length_map, List.take_length] at hes6 hk6
        refine ⟨_, _, _, _, _, _, _, _, _, _, rfl, f6, m, kidsF F, done ++ [F.map (num (m + 1))], es6, by rw [List.length_append, hj]; rfl, by rw [List.append_assoc]; exact hdone, hb6, ?_, fun k hk => ?_⟩
        · rw [List.flatten_append, List.length_append, List.flatten_cons, List.flatten_nil, List.append_nil, List.length_map]
          exact hes6
        · obtain ⟨u, hu, hk'⟩ := List.mem_flatMap.mp hk
          obtain ⟨⟨_, h1⟩, h2, _⟩ := hF u hu
          exact ⟨h1 k hk', h2.2.2.2 k hk', hk6 k hk⟩
    · rintro σ H5 ⟨v3, v4, v5, v6, v7, v8, v9, v10, v11, v12, rfl, f5, m0, F, done, es5, hj, hdone, hb5, hes5, hF⟩
      rw [List.length_take] at hj
      obtain rfl : m0 = 0 := by
        have z := congrArg List.length hdone
        rw [List.length_append, rows_len, rows_len] at z
        omega
      refine ⟨_, rfl, kq H5 b F (fr f5) ?_ (fun u hu => (hF u hu).1) fun u hu => (hF u hu).2.2⟩
      rw [← hdone]
      show (done ++ [F.map (num 0)]).getLast? = _
      rw [List.getLast?_append]
      rfl
end
end K12

namespace K12
open PySem PySem.Spec PyProof.Rows L2 RZ HX TR
theorem last_at {α β : Type} {R : α → β → Prop} {xs : List α} {ys : List β} {y : β} (h : Paired R xs ys) (e : ys.getLast? = some y) : ∃ x, atI xs (-1) = some x ∧ R x y := by
  have hl := Paired.length h
  have hn : ys ≠ [] := fun z => by rw [z] at e; cases e
  have h0 : 0 < ys.length := List.length_pos_iff.mpr hn
  rw [List.getLast?_eq_getElem?] at e
  obtain ⟨x, hx, r⟩ := pget2 h e
  exact ⟨x, at_last (n := ys.length - 1) (by omega) hx, r⟩
section
variable {P : Program} {w : World} {K : PySem.W.Frag} {mg : Str → Option Value} {base : Heap}
def sp_keys_fit : Sp := fun vs H Q _ => ∃ (l : Nat) (t : Tr l) (S : List (Int × Pg)) (lv d : Addr), vs = [.ref lv, .ref d] ∧ LevAt H lv (rows l [t]) ∧ DctAt H d S ∧ Laid S l t ∧ KeyOk l t ∧ KeyB l t 0 1000000001 ∧ (nums l t).Nodup ∧ (nums l t).length ≤ 1000 ∧ l ≤ 100 ∧ (∀ q ∈ S, PgOk q.2) ∧
  ∀ H', Same H H' → Q (.bl true) H'
theorem ok_keys_fit (T : TX K mg) : FnOk P w K mg base CX0 2 (He.ga K "keys_fit") T.fd_keys_fit ["levels", "pages"] sp_keys_fit := by
  have G_bounds_of : FnOk P w K mg base CX0 1 (He.ga K "bounds_of") T.fd_bounds_of ["levels", "pages"] sp_bounds_of := ok_bounds_of T
  have b_bounds_of := b_bounds_of T
  refine T.F_keys_fit.ok sc_keys_fit (fun vs H Q E h => ?_) (fun cdv A outer st H vs Q E hr h => ?_)
  · obtain ⟨l, t, S, lv, d, rfl, _⟩ := h
    rfl
  · obtain ⟨l, t, S, lv, d, rfl, hlv, hd, hL, hK, hB, nd, few, hl, hg, kq⟩ := h
    refine ⟨_, PSs.nox (pss_cons (ps_set (i := 2) sc_keys_fit.nd rfl (Or.inl rfl) (pe_call G_bounds_of (hr.mono (by first | decide | omega)) rfl T.g_bounds_of T.F_bounds_of.kp b_bounds_of .nil pass0 (pa_cons (pv 0) (pa_cons (pv 1) pa_nil))))
 (pss_cons (ps_for PassesOwn.never rfl (pi_list (pe_ix ix_list (pv 0) (pe_un un_neg pe_int) (fun _ _ => rfl))) (pg_name (i := 3) sc_keys_fit.nd rfl (Or.inl rfl))
 (pss_cons (ps_asg (pe_dget (hu_of hr) (pv 2) (pv 3) (fun _ _ => rfl)) (pg_tup rfl (pgs_cons (pg_name (i := 4) sc_keys_fit.nd rfl (Or.inr rfl)) (pgs_cons (pg_name (i := 5) sc_keys_fit.nd rfl (Or.inr rfl)) pgs_nil))))
 (pss_one (ps_if (pt_not (pt_val (pe_callB (cr_all rfl) rfl T.n_all (by decide +kernel) (pa_cons (pe_lc (own := [("pair", 6)]) (g := gName 6) (tt := tYes) rfl sc_keys_fit.nd (pi_tup (pe_ix ix_tup (pe_dget (hu_of hr) (pv 1) (pv 3) (fun _ _ => rfl)) pe_int (fun _ _ => rfl))) (blkOk_by (own := [("pair", 6)]) (N := ["levels", "pages", "bounds", "number", "low", "high", "pair"]) (sc := defScope s_keys_fit) (by decide +kernel)) (fun _ _ _ _ _ => (pg_name (i := 6) sc_keys_fit.nd rfl (Or.inl rfl))) (fun _ _ _ _ _ => pts_nil) (fun _ _ _ _ _ => (pe_chain op_le op_lt (pv 4) (pe_ix (ixt K) (pv 6) pe_int (fun _ _ => rfl)) (pv 5)))) pa_nil))))
 (pss_one (ps_ret pe_bl))
 pss_nil))))
 (pss_one (ps_ret pe_bl)))), ?_⟩
    refine ⟨_, rfl, _, rfl, l, t, S, lv, d, rfl, hlv, hd, hL, hK, hB, nd, few, hl, fun H1 b F s1 hlast hFL hbd => ?_⟩
    obtain ⟨vs, hv1, hvs⟩ := hlv.same s1
    obtain ⟨x, hx, a, rfl, _, ha⟩ := last_at hvs hlast
    refine ⟨_, rfl, 1, rfl, lv, _, _, _, rfl, rfl, SqL.of hv1, hx, a, rfl, ⟨_, SqL.of ha⟩, ?_⟩
    refine for_list (xs := (F.map (num 0)).map V.int) (fun i σ H' => ∃ v3 v4 v5, σ = [some (.ref lv), some (.ref d), some (.ref b), v3, v4, v5, none] ∧ Same H1 H') ⟨_, _, _, rfl, Same.refl H1⟩ (fun i σ H' _ z => ?_) ?_ ?_
    · obtain ⟨_, _, _, _, s⟩ := z
      exact SqL.of (s _ _ ha)
    · rintro i x σ H2 hx2 ⟨v3, v4, v5, rfl, s2⟩
      obtain ⟨n, hn, rfl⟩ := map_at hx2
      obtain ⟨u, hu, rfl⟩ := map_at hn
      have mu := List.mem_of_getElem? hu
      obtain ⟨lo, hi, ⟨es, t', hb, hv, ht'⟩, hKB⟩ := (hbd u mu).same s2
      obtain ⟨nx, hk⟩ := hFL u mu
      have hd2 := (hd.same s1).same s2
      obtain ⟨v, hv2, t1, q, rfl, ht1, ys, hq, hpy⟩ := hd2.get hk
      have hps : u.ps.length ≤ 1000 := (hg _ (lkp_mem hk)).2.2.2.2
      refine ⟨_, rfl, _, rfl, b, .ref t', rfl, hv ▸ DGet.k (k := .inl (num 0 u)) hb, t', _, rfl, SqT.of ht', rfl, _, _, rfl, _, _, rfl, rfl, ?_⟩
      refine ⟨_, rfl, _, rfl, d, _, rfl, hv2, t1, _, _, _, rfl, rfl, SqT.of ht1, rfl, q, rfl, ⟨_, hq.sq⟩, fun D hD => ?_⟩
      have hyl := Paired.length hpy
      refine lc_it (walk_tup (xs := ys)) (fun j H' => Same H2 H' ∧ H' D = some (.lst ((List.replicate j true).map V.bl))) ⟨same_new hD, upd_same⟩ (fun j H' _ z => (hq.same z.1).sq) ?_ ?_
      · rintro j x H3 H4 hj ⟨s3, hD3⟩ ⟨rfl, hx3⟩
        obtain ⟨pr, hpr, t2, rfl, ht2⟩ := pget1 hpy hx3
        obtain ⟨k1, k2⟩ := hKB pr (List.mem_of_getElem? hpr)
        refine ⟨rfl, ?_⟩
        dsimp only [tYes]
        rw [if_pos rfl]
        refine ⟨_, rfl, _, rfl, t2, _, _, _, rfl, rfl, SqT.of (s3 _ _ ht2), rfl, _, _, rfl, rfl, true, congrArg V.bl (decide_eq_true k1), iteT ?_⟩
        refine ⟨_, rfl, _, _, rfl, rfl, _, hD3, ?_, same_upd s3 hD, ?_⟩
        · rw [List.length_map, List.length_replicate]
          exact Nat.lt_of_le_of_lt (by omega : j ≤ 1000) (by decide)
        · rw [upd_same, ← rep_snoc]
          show some (HO.lst (_ ++ [V.bl (decide (pr.1 < hi))])) = _
          rw [decide_eq_true k2]
      · rintro H3 ⟨s3, hD3⟩
        refine ⟨D, _, rfl, SqL.of hD3, ?_⟩
        rw [rep_true]
        exact ⟨true, rfl, iteF ⟨_, _, _, rfl, s2.trans s3⟩⟩
    · rintro σ H2 ⟨v3, v4, v5, rfl, s2⟩
      exact kq H2 (s1.trans s2)
/-- a sound tree as it stands in a heap -/
structure SndAt (H : Hp) (v : V) (room l : Nat) (t : Tr l) (S : List (Int × Pg)) : Prop where
  tree : Tree room l t S
  at_ : TreeAt H v room (num l t) S
theorem pgOk_of {room : Nat} : ∀ {l : Nat} {top : Bool} {t : Tr l} {S : List (Int × Pg)}, room ≤ 8 → Laid S l t → WfSh room l top (shp l t) → KeyOk l t → (∀ k ∈ nums l t, 1 ≤ k ∧ k ≤ 1000000) → (prs l t).Pairwise (fun a b => a.1 < b.1) → (∀ q ∈ prs l t, GoodPr q) →
    (∀ n ∈ lvs l t, ∀ ps nx, lkp S n = some (.leaf ps nx) → 0 ≤ nx ∧ nx ≤ 1000000) → ∀ k ∈ nums l t, ∀ g, lkp S k = some g → PgOk g
  | 0, _, t, S, r8, ⟨nx, h⟩, w, _, _, hp, hg, hn, k, hk, g, e => by
    obtain rfl := List.mem_singleton.mp hk
    rw [h] at e
    cases e
    have := hn _ (List.mem_singleton.mpr rfl) _ _ h
    have w2 : t.ps.length ≤ room := w.2
    exact ⟨hg, hp, this.1, this.2, by omega⟩
  | l + 1, _, t, S, r8, ⟨h, hl⟩, w, ⟨k1, k2, k3, k4⟩, hr, hp, hg, hn, k, hk, g, e => by
    have w2 := w.2.1
    have el : (shp (l + 1) t).ks.length = t.kids.length := List.length_map ..
    rw [el] at w2
    rcases List.mem_cons.mp hk with hk | hk
    · subst hk
      rw [h] at e
      cases e
      refine ⟨k1, k2, fun n hn => ?_, by rw [List.length_map]; exact k3, by rw [List.length_map]; omega⟩
      obtain ⟨u, hu, rfl⟩ := List.mem_map.mp hn
      refine hr _ (List.mem_cons_of_mem _ (List.mem_flatMap.mpr ⟨u, hu, ?_⟩))
      cases l with
      | zero => exact List.mem_singleton.mpr rfl
      | succ l => exact List.mem_cons_self ..
    · obtain ⟨u, hu, hk⟩ := List.mem_flatMap.mp hk
      refine pgOk_of r8 (hl u hu) (w.2.2 _ (List.mem_map_of_mem hu)) (k4 u hu) (fun k hk => hr k (List.mem_cons_of_mem _ (List.mem_flatMap.mpr ⟨u, hu, hk⟩))) ?_ (fun q hq => hg q (List.mem_flatMap.mpr ⟨u, hu, hq⟩)) (fun n hn' => hn n (List.mem_flatMap.mpr ⟨u, hu, hn'⟩)) k hk g e
      obtain ⟨i, hi⟩ := List.getElem?_of_mem hu
      have hp' : (t.kids.flatMap (prs l)).Pairwise (fun a b => a.1 < b.1) := hp
      exact hp'.sublist (by
        have hil := (List.getElem?_eq_some_iff.mp hi)
        obtain ⟨a, b, e⟩ := List.append_of_mem hu
        rw [e, List.flatMap_append, List.flatMap_cons]
        exact (List.sublist_append_left _ _).trans (List.sublist_append_right _ _))
theorem Tree.pgOk {room l : Nat} {t : Tr l} {S : List (Int × Pg)} (h : Tree room l t S) : ∀ q ∈ S, 1 ≤ q.1 ∧ q.1 ≤ 1000000 ∧ PgOk q.2 := fun q hq => by
  have m : q.1 ∈ nums l t := h.perm.mem_iff.mp (List.mem_map_of_mem hq)
  have ndS : (S.map (·.1)).Nodup := h.perm.nodup_iff.mpr h.nodup
  refine ⟨(h.range _ m).1, (h.range _ m).2, pgOk_of h.r8 h.laid h.wf h.keyOk h.range h.rising h.good (fun n hn ps nx e => ?_) q.1 m q.2 (mem_lkp ndS hq)⟩
  obtain ⟨j, hj⟩ := List.getElem?_of_mem hn
  obtain ⟨ps', e2⟩ := h.next j n (List.getElem?_eq_some_iff.mp hj).1 hj
  rw [e] at e2
  cases e2
  cases c : (lvs l t)[j + 1]? with
  | none => exact ⟨Int.le_refl 0, by decide⟩
  | some k =>
    have := h.range k (lvs_sub.subset (List.mem_of_getElem? c))
    exact ⟨by show 0 ≤ k; omega, this.2⟩
end
end K12

namespace K12
open PySem PySem.Spec PyProof.Rows L2 RZ HX TR
theorem num_pairs {K : PySem.W.Frag} {H : Hp} : ∀ {xs : List V} {S : List (Int × Pg)}, Paired (NumAt H) xs S → ∃ (ps : List Addr) (kvs : List (Key × V)), xs = ps.map V.ref ∧ Paired (fun p (kv : Key × V) => SqT K H p [kV kv.1, kv.2]) ps kvs ∧ Paired (EnAt H) kvs S ∧ kvs.map (·.1) = S.map fun q => (.inl q.1 : Key)
  | _, _, .nil => ⟨[], [], rfl, .nil, .nil, rfl⟩
  | _, _, .cons (b := q) r rs => by
    obtain ⟨ps, kvs, e, h1, h2, h3⟩ := num_pairs (K := K) rs
    obtain ⟨t, v, e1, ht, hv⟩ := r
    refine ⟨t :: ps, (.inl q.1, v) :: kvs, by rw [e, e1]; rfl, .cons (SqT.of ht) h1, .cons ⟨rfl, hv⟩ h2, by rw [List.map_cons, List.map_cons, h3]⟩
section
variable {P : Program} {w : World} {K : PySem.W.Frag} {mg : Str → Option Value} {base : Heap}
theorem lvs_ne : ∀ {l : Nat} {t : Tr l}, KeyOk l t → lvs l t ≠ []
  | 0, _, _ => fun e => by cases e
  | l + 1, t, h => fun e => by
    have h1 := h.2.2.1
    cases c : t.kids with
    | nil => rw [c] at h1; cases h1
    | cons u r =>
      have e2 : t.kids.flatMap (lvs l) = [] := e
      rw [c, List.flatMap_cons] at e2
      exact lvs_ne (h.2.2.2 u (by rw [c]; exact List.mem_cons_self ..)) (List.append_eq_nil_iff.mp e2).1
/-- dict(..) of a tree's pages -/
theorem pages_dict {H : Hp} {kvs : List (Key × V)} {S : List (Int × Pg)} (h2 : Paired (EnAt H) kvs S) (h3 : kvs.map (·.1) = S.map fun q => (.inl q.1 : Key)) (nd : (S.map (·.1)).Nodup) {d : Addr} (hd : H d = none) :
    Same H (upd H d (.dK (mergeK [] kvs))) ∧ DctAt (upd H d (.dK (mergeK [] kvs))) d S := by
  have hm : mergeK [] kvs = kvs := by
    rw [RU.mergeK_nodup]
    · rfl
    · rw [List.nil_append, h3]
      have e : (S.map fun q => (.inl q.1 : Key)) = (S.map (·.1)).map (fun k => (.inl k : Key)) := by rw [List.map_map]; rfl
      rw [e]
      exact List.Pairwise.map _ (fun a b h z => h (by injection z)) nd
  rw [hm]
  have s : Same H (upd H d (.dK kvs)) := same_new hd
  exact ⟨s, kvs, upd_same, paired_imp (fun _ _ (r : EnAt H _ _) => (⟨r.1, r.2.keep (Keep.of s)⟩ : EnAt _ _ _)) h2⟩
def sp_is_sound : Sp := fun vs H Q _ => ∃ (v : V) (room l : Nat) (t : Tr l) (S : List (Int × Pg)), vs = [v] ∧ SndAt H v room l t S ∧ l ≤ 100 ∧ ∀ H', Same H H' → Q (.bl true) H'
theorem ok_is_sound (T : TX K mg) : FnOk P w K mg base CX0 11 (He.ga K "is_sound") T.fd_is_sound ["thing"] sp_is_sound := by
  have G_is_row : FnOk P w K mg base CX0 1 (He.ga K "is_row") T.fd_is_row ["thing", "many"] sp_is_row := ok_is_row T
  have b_is_row := b_is_row T
  have G_is_room : FnOk P w K mg base CX0 3 (He.ga K "is_room") T.fd_is_room ["thing"] (sp_rng 3 8) := ok_is_room T
  have b_is_room := b_is_room T
  have G_is_page_number : FnOk P w K mg base CX0 3 (He.ga K "is_page_number") T.fd_is_page_number ["thing"] (sp_rng 1 1000000) := ok_is_page_number T
  have b_is_page_number := b_is_page_number T
  have G_are_numbered_pages : FnOk P w K mg base CX0 10 (He.ga K "are_numbered_pages") T.fd_are_numbered_pages ["thing"] sp_are_numbered_pages := ok_are_numbered_pages T
  have b_are_numbered_pages := b_are_numbered_pages T
  have G_levels_from : FnOk P w K mg base CX0 1 (He.ga K "levels_from") T.fd_levels_from ["root", "pages"] sp_levels_from := ok_levels_from T
  have b_levels_from := b_levels_from T
  have G_sizes_fit : FnOk P w K mg base CX0 2 (He.ga K "sizes_fit") T.fd_sizes_fit ["room", "root", "pages"] sp_sizes_fit := ok_sizes_fit T
  have b_sizes_fit := b_sizes_fit T
  have G_keys_fit : FnOk P w K mg base CX0 2 (He.ga K "keys_fit") T.fd_keys_fit ["levels", "pages"] sp_keys_fit := ok_keys_fit T
  have b_keys_fit := b_keys_fit T
  have G_nexts_fit : FnOk P w K mg base CX0 1 (He.ga K "nexts_fit") T.fd_nexts_fit ["leaves", "pages"] sp_nexts_fit := ok_nexts_fit T
  have b_nexts_fit := b_nexts_fit T
  refine T.F_is_sound.ok sc_is_sound (fun vs H Q E h => ?_) (fun cdv A outer st H vs Q E hr h => ?_)
  · obtain ⟨v, room, l, t, S, rfl, _⟩ := h
    rfl
  · obtain ⟨v, room, l, t, S, rfl, ⟨h, a, b, o, xs, rfl, ha, hb, ho, hx⟩, hl, kq⟩ := h
    refine ⟨_, PSs.nox (pss_cons (ps_if (pt_not (pt_val (pe_call G_is_row (hr.mono (by first | decide | omega)) rfl T.g_is_row T.F_is_row.kp b_is_row .nil pass0 (pa_cons (pv 0) (pa_cons pe_int pa_nil)))))
 (pss_one (ps_ret pe_bl))
 pss_nil)
 (pss_cons (ps_asg (pv 0) (pg_tup rfl (pgs_cons (pg_name (i := 1) sc_is_sound.nd rfl (Or.inl rfl)) (pgs_cons (pg_name (i := 2) sc_is_sound.nd rfl (Or.inl rfl)) (pgs_cons (pg_name (i := 3) sc_is_sound.nd rfl (Or.inl rfl)) pgs_nil)))))
 (pss_cons (ps_if (PW.pt (pw_or (pt_not (pt_val (pe_call G_is_room (hr.mono (by first | decide | omega)) rfl T.g_is_room T.F_is_room.kp b_is_room .nil pass0 (pa_cons (pv 1) pa_nil)))) (pw_or (pt_not (pt_val (pe_call G_is_page_number (hr.mono (by first | decide | omega)) rfl T.g_is_page_number T.F_is_page_number.kp b_is_page_number .nil pass0 (pa_cons (pv 2) pa_nil)))) (pw_or1 (pt_not (pt_val (pe_call G_are_numbered_pages (hr.mono (by first | decide | omega)) rfl T.g_are_numbered_pages T.F_are_numbered_pages.kp b_are_numbered_pages .nil pass0 (pa_cons (pv 3) pa_nil))))))))
 (pss_one (ps_ret pe_bl))
 pss_nil)
 (pss_cons (ps_set (i := 4) sc_is_sound.nd rfl (Or.inl rfl) (pe_callTy (RU.call_dictT rfl) rfl T.n_dict (by decide +kernel) (pa_cons (pv 3) pa_nil)))
 (pss_cons (ps_set (i := 5) sc_is_sound.nd rfl (Or.inl rfl) (pe_call G_levels_from (hr.mono (by first | decide | omega)) rfl T.g_levels_from T.F_levels_from.kp b_levels_from .nil pass0 (pa_cons (pv 2) (pa_cons (pv 4) pa_nil))))
 (pss_cons (ps_if (PW.pt (pw_or (pt_cmpR op_isN (pv 5) pe_non (nomark _)) (pw_or1 (pt_not (pt_val (pe_call G_sizes_fit (hr.mono (by first | decide | omega)) rfl T.g_sizes_fit T.F_sizes_fit.kp b_sizes_fit .nil pass0 (pa_cons (pv 1) (pa_cons (pv 2) (pa_cons (pv 4) pa_nil)))))))))
 (pss_one (ps_ret pe_bl))
 pss_nil)
 (pss_one (ps_ret (pe_and (pe_call G_keys_fit (hr.mono (by first | decide | omega)) rfl T.g_keys_fit T.F_keys_fit.kp b_keys_fit .nil pass0 (pa_cons (pv 5) (pa_cons (pv 4) pa_nil))) (pe_one (pe_call G_nexts_fit (hr.mono (by first | decide | omega)) rfl T.g_nexts_fit T.F_nexts_fit.kp b_nexts_fit .nil pass0 (pa_cons (pe_ix ix_list (pv 5) (pe_un un_neg pe_int) (fun _ _ => rfl)) (pa_cons (pv 4) pa_nil))))))))))))), ?_⟩
    have r3 := h.r3
    have r8 := h.r8
    have hroot := h.range (num l t) (by cases l <;> simp [nums])
    have hlen : S.length = (nums l t).length := by
      have z := h.perm.length_eq
      rw [List.length_map] at z
      exact z
    have ndS : (S.map (·.1)).Nodup := h.perm.nodup_iff.mpr h.nodup
    have hne : S ≠ [] := fun e => by
      rw [e] at hlen
      cases l <;> simp [nums] at hlen
    have few := h.few
    refine ⟨_, rfl, a, _, _, rfl, ha, true, rfl, iteF ?_⟩
    refine ⟨_, rfl, a, _, rfl, SqT.of ha, rfl, _, _, rfl, _, _, rfl, _, _, rfl, rfl, ?_⟩
    refine ⟨_, rfl, (room : Int), rfl, ?_⟩
    rw [decide_eq_true (by omega : (3 : Int) ≤ (room : Int)), decide_eq_true (by omega : (room : Int) ≤ 8)]
    refine ⟨true, rfl, iteF ?_⟩
    refine ⟨_, rfl, num l t, rfl, ?_⟩
    rw [decide_eq_true hroot.1, decide_eq_true hroot.2]
    refine ⟨true, rfl, iteF ?_⟩
    refine ⟨_, rfl, b, o, xs, S, rfl, hb, hx, K12.Tree.pgOk h, h.sorted, hne, by omega, fun H1 s1 => ⟨true, rfl, iteF ?_⟩⟩
    obtain ⟨ps, kvs, e, p1, p2, p3⟩ := num_pairs (K := K) (paired_imp (fun _ _ r => NumAt.keep (Keep.of s1) r) hx)
    subst e
    refine ⟨_, rfl, b, o, ps, kvs, rfl, s1 _ _ hb, ho, p1, fun d hd0 => ?_⟩
    obtain ⟨s2, hd⟩ := pages_dict p2 p3 ndS hd0
    generalize upd H1 d (.dK (mergeK [] kvs)) = H2 at s2 hd
    refine ⟨_, rfl, _, rfl, l, t, S, d, rfl, hd, h.laid, h.keyOk, h.nodup, hlen, by omega, hl, fun H3 lv s3 hlv => ?_⟩
    refine ⟨_, rfl, rfl, _, rfl, iteF ?_⟩
    refine ⟨_, rfl, _, rfl, _, rfl, room, l, t, S, d, rfl, hd.same s3, h.laid, h.wf, h.nodup, h.perm, fun H4 s4 => ⟨true, rfl, iteF ?_⟩⟩
    refine ⟨_, rfl, _, rfl, l, t, S, lv, d, rfl, hlv.same s4, (hd.same s3).same s4, h.laid, h.keyOk, h.keyB, h.nodup, by omega, hl, fun q hq => (K12.Tree.pgOk h q hq).2.2, fun H5 s5 => ⟨true, rfl, iteT ?_⟩⟩
    obtain ⟨vs, hv5, hvs⟩ := (hlv.same s4).same s5
    have hlast : (rows l [t]).getLast? = some (lvs l t) := by
      have z := rows_last [t]
      rw [List.flatMap_cons, List.flatMap_nil, List.append_nil] at z
      exact z
    obtain ⟨x, hx5, a5, rfl, _, ha5⟩ := last_at hvs hlast
    have hll := lvs_len (l := l) (t := t)
    exact ⟨_, rfl, 1, rfl, lv, _, _, _, rfl, rfl, SqL.of hv5, hx5, _, rfl, lvs l t, S, a5, d, rfl, ha5, ((hd.same s3).same s4).same s5, h.next, lvs_ne h.keyOk, by omega, fun H6 s6 => kq H6 (((((s1.trans s2).trans s3).trans s4).trans s5).trans s6)⟩
def sp_need_tree : Sp := fun vs H Q _ => ∃ (v : V) (room l : Nat) (t : Tr l) (S : List (Int × Pg)), vs = [v] ∧ SndAt H v room l t S ∧ l ≤ 100 ∧ ∀ H', Same H H' → Q .non H'
theorem ok_need_tree (T : TX K mg) : FnOk P w K mg base CX0 12 (He.ga K "need_tree") T.fd_need_tree ["thing"] sp_need_tree := by
  have G_is_sound : FnOk P w K mg base CX0 11 (He.ga K "is_sound") T.fd_is_sound ["thing"] sp_is_sound := ok_is_sound T
  have b_is_sound := b_is_sound T
  refine T.F_need_tree.ok sc_need_tree (fun vs H Q E h => ?_) (fun cdv A outer st H vs Q E hr h => ?_)
  · obtain ⟨v, room, l, t, S, rfl, _⟩ := h
    rfl
  · obtain ⟨v, room, l, t, S, rfl, h, hl, kq⟩ := h
    refine ⟨_, PSs.nox (pss_one (ps_if (pt_not (pt_val (pe_call G_is_sound (hr.mono (by first | decide | omega)) rfl T.g_is_sound T.F_is_sound.kp b_is_sound .nil pass0 (pa_cons (pv 0) pa_nil))))
 (pss_one ps_never)
 pss_nil)), ?_⟩
    exact ⟨_, rfl, v, room, l, t, S, rfl, h, hl, fun H1 s1 => ⟨true, rfl, iteF (kq H1 s1)⟩⟩
end
end K12

namespace K12
open PySem PySem.Spec PyProof.Rows L2 RZ HX TR
def bfs (room root half : Int) (d : Addr) : List (Str × V) := putF "pages" (.ref d) (putF "half" (.int half) (putF "root" (.int root) (putF "room" (.int room) [])))
section
variable {P : Program} {w : World} {K : PySem.W.Frag} {mg : Str → Option Value} {base : Heap}
def sp_Book_init (K : PySem.W.Frag) : Sp := fun vs H Q _ => ∃ (s dx : Addr) (v : V) (room l : Nat) (t : Tr l) (S : List (Int × Pg)), vs = [.ref s, v] ∧ H s = some (.ins (He.ga K "Book") dx []) ∧ SndAt H v room l t S ∧
  ∀ (H' : Hp) (d : Addr), But s H H' → H' s = some (.ins (He.ga K "Book") dx (bfs (room : Int) (num l t) (((room + 1) / 2 : Nat) : Int) d)) → DctAt H' d S → H d = none → Q .non H'
theorem ok_Book_init (T : TX K mg) : FnOk P w K mg base CX0 2 (He.ma K (He.ga K "Book") "__init__") T.fd_Book_init ["self", "tree"] (sp_Book_init K) := by
  have G_half_of : FnOk P w K mg base CX0 1 (He.ga K "half_of") T.fd_half_of ["room"] sp_half_of := ok_half_of T
  have b_half_of := b_half_of T
  refine T.F_Book_init.ok sc_Book_init (fun vs H Q E h => ?_) (fun cdv A outer st H vs Q E hr h => ?_)
  · obtain ⟨s, dx, v, room, l, t, S, rfl, _⟩ := h
    rfl
  · obtain ⟨s, dx, v, room, l, t, S, rfl, hs, ⟨h, a, b, o, xs, rfl, ha, hb, ho, hx⟩, kq⟩ := h
    refine ⟨_, PSs.nox (pss_cons (ps_asg (pv 1) (pg_tup rfl (pgs_cons (RU.pg_fld (pv 0)) (pgs_cons (RU.pg_fld (pv 0)) (pgs_cons (pg_name (i := 2) sc_Book_init.nd rfl (Or.inl rfl)) pgs_nil)))))
 (pss_cons (ps_fld (pv 0) (pe_call G_half_of (hr.mono (by first | decide | omega)) rfl T.g_half_of T.F_half_of.kp b_half_of .nil pass0 (pa_cons (pe_fld (pv 0) rfl) pa_nil)) rfl)
 (pss_one (ps_fld (pv 0) (pe_callTy (RU.call_dictT rfl) rfl T.n_dict (by decide +kernel) (pa_cons (pv 2) pa_nil)) rfl)))), ?_⟩
    have l0 : ([] : List (Str × V)).length < 1 := Nat.lt_succ_self 0
    have ndS : (S.map (·.1)).Nodup := h.perm.nodup_iff.mpr h.nodup
    refine ⟨_, rfl, a, _, rfl, SqT.of ha, rfl, _, _, rfl, _, rfl, s, _, dx, _, rfl, hs, T.cl_Book, T.na_Book_room, by show 0 < 1000; decide, _, _, rfl, _, rfl, s, _, dx, _, rfl, upd_same, T.cl_Book, T.na_Book_root, Nat.lt_trans (putF_lt l0) (by decide), _, _, rfl, rfl, ?_⟩
    have a2 : But s H (upd (upd H s (.ins (He.ga K "Book") dx (putF "room" (.int (room : Int)) []))) s (.ins (He.ga K "Book") dx (putF "root" (.int (num l t)) (putF "room" (.int (room : Int)) [])))) := ((But.refl s H).upd).upd
    have s2 : upd (upd H s (.ins (He.ga K "Book") dx (putF "room" (.int (room : Int)) []))) s (.ins (He.ga K "Book") dx (putF "root" (.int (num l t)) (putF "room" (.int (room : Int)) []))) s = some (.ins (He.ga K "Book") dx (putF "root" (.int (num l t)) (putF "room" (.int (room : Int)) []))) := upd_same
    generalize upd (upd H s (.ins (He.ga K "Book") dx (putF "room" (.int (room : Int)) []))) s (.ins (He.ga K "Book") dx (putF "root" (.int (num l t)) (putF "room" (.int (room : Int)) []))) = H2 at a2 s2
    refine ⟨_, rfl, s, _, dx, _, _, rfl, s2, T.cl_Book, T.na_Book_room, lk_miss (by decide +kernel) (lk_hit _ _ _), room, rfl, _, rfl, s, _, dx, _, rfl, s2, T.cl_Book, T.na_Book_half, Nat.lt_trans (putF_lt (putF_lt l0)) (by decide), ?_⟩
    have a3 : But s H (upd H2 s (.ins (He.ga K "Book") dx (putF "half" (.int (((room + 1) / 2 : Nat) : Int)) (putF "root" (.int (num l t)) (putF "room" (.int (room : Int)) []))))) := a2.upd
    have s3 : upd H2 s (.ins (He.ga K "Book") dx (putF "half" (.int (((room + 1) / 2 : Nat) : Int)) (putF "root" (.int (num l t)) (putF "room" (.int (room : Int)) [])))) s = some (.ins (He.ga K "Book") dx (putF "half" (.int (((room + 1) / 2 : Nat) : Int)) (putF "root" (.int (num l t)) (putF "room" (.int (room : Int)) [])))) := upd_same
    generalize upd H2 s (.ins (He.ga K "Book") dx (putF "half" (.int (((room + 1) / 2 : Nat) : Int)) (putF "root" (.int (num l t)) (putF "room" (.int (room : Int)) [])))) = H3 at a3 s3
    have nbs : b ≠ s := fun e => by rw [e, hs] at hb; cases hb
    have k3 : Keep H H3 := Keep.but a3 fun ys e => by rw [hs] at e; cases e; rfl
    obtain ⟨ps, kvs, e, p1, p2, p3⟩ := num_pairs (K := K) (paired_imp (fun _ _ r => NumAt.keep k3 r) hx)
    subst e
    refine ⟨_, rfl, b, o, ps, kvs, rfl, a3 _ _ nbs hb, ho, p1, fun d hd0 => ?_⟩
    obtain ⟨s4, hd⟩ := pages_dict p2 p3 ndS hd0
    have hdn : H d = none := by
      cases z : H d with
      | none => rfl
      | some u => exact absurd (a3 _ _ (fun e => by rw [e, s3] at hd0; cases hd0) z) (by rw [hd0]; simp)
    generalize upd H3 d (.dK (mergeK [] kvs)) = H4 at s4 hd
    have hs4 := s4 _ _ s3
    refine ⟨_, rfl, s, _, dx, _, rfl, hs4, T.cl_Book, T.na_Book_pages, Nat.lt_trans (putF_lt (putF_lt (putF_lt l0))) (by decide), ?_⟩
    refine kq _ d ((a3.trans (But.of s4)).upd) upd_same ?_ hdn
    obtain ⟨es, h1, h2⟩ := hd
    have k5 : Keep H4 (upd H4 s (.ins (He.ga K "Book") dx (bfs (room : Int) (num l t) (((room + 1) / 2 : Nat) : Int) d))) := (Keep.refl H4).upd fun ys e => by rw [hs4] at e; cases e; rfl
    exact ⟨es, by rw [upd_ne (fun e => by rw [e, hs4] at h1; cases h1)]; exact h1, paired_imp (fun _ _ (r : EnAt H4 _ _) => (⟨r.1, r.2.keep k5⟩ : EnAt _ _ _)) h2⟩
end
end K12

namespace K12
open PySem PySem.Spec PyProof.Rows L2 RZ HX TR
def wayOf : (l : Nat) → Tr l → Int → List Int
  | 0, t, _ => [num 0 t]
  | l + 1, t, k => num (l + 1) t :: (match t.kids[placeOf t.keys k]? with
    | some u => wayOf l u k
    | none => [])
theorem wayOf_cons : ∀ {l : Nat} {t : Tr l} {k : Int}, ∃ r, wayOf l t k = num l t :: r
  | 0, _, _ => ⟨[], rfl⟩
  | _ + 1, _, _ => ⟨_, rfl⟩
theorem wayOf_len : ∀ {l : Nat} {t : Tr l} {k : Int}, (wayOf l t k).length ≤ l + 1
  | 0, _, _ => Nat.le_refl _
  | l + 1, t, k => by
    show (num (l + 1) t :: _).length ≤ _
    rw [List.length_cons]
    split
    · exact Nat.succ_le_succ wayOf_len
    · exact Nat.succ_le_succ (Nat.zero_le _)
theorem place_lt {l : Nat} {t : Tr (l + 1)} (h : KeyOk (l + 1) t) (k : Int) : ∃ u, t.kids[placeOf t.keys k]? = some u ∧ u ∈ t.kids := by
  have h1 := h.2.2.1
  have h2 : placeOf t.keys k ≤ t.keys.length := List.length_filter_le _ _
  have h3 : placeOf t.keys k < t.kids.length := by omega
  exact ⟨_, List.getElem?_eq_getElem h3, List.getElem_mem h3⟩
theorem bfs_no {room root half : Int} {d : Addr} {x : Str} (h1 : ¬ ("room" : Str) = x) (h2 : ¬ ("root" : Str) = x) (h3 : ¬ ("half" : Str) = x) (h4 : ¬ ("pages" : Str) = x) : (bfs room root half d).lookup x = none :=
  lk_miss h4 (lk_miss h3 (lk_miss h2 (lk_miss h1 rfl)))
section
variable {P : Program} {w : World} {K : PySem.W.Frag} {mg : Str → Option Value} {base : Heap}
def sp_Book_way (K : PySem.W.Frag) : Sp := fun vs H Q _ => ∃ (s dx d : Addr) (room half k : Int) (l : Nat) (t : Tr l) (S : List (Int × Pg)), vs = [.ref s, .int k] ∧ H s = some (.ins (He.ga K "Book") dx (bfs room (num l t) half d)) ∧ DctAt H d S ∧ Laid S l t ∧ KeyOk l t ∧ (nums l t).length ≤ 1000 ∧ l ≤ 100 ∧
  ∀ (H' : Hp) (a : Addr), Same H H' → RU.FzT H' a ((wayOf l t k).map V.int) → Q (.ref a) H'
theorem keys_few : ∀ {l : Nat} {t : Tr l}, KeyOk l t → (nums l t).length ≤ 1000 → ∀ {m : Nat} {u : Tr (m + 1)}, l = m + 1 → HEq t u → u.keys.length ≤ 1000
  | l, t, hK, few, m, u, e, he => by
    subst e
    cases he
    have h1 := hK.2.2.1
    have h2 : u.kids.length ≤ (u.kids.flatMap (nums m)).length := by
      rw [List.length_flatMap]
      generalize u.kids = ks
      induction ks with
      | nil => exact Nat.zero_le _
      | cons a r ih =>
        rw [List.map_cons, List.sum_cons, List.length_cons]
        have : 1 ≤ (nums m a).length := by cases m <;> simp [nums]
        omega
    have h3 : (nums (m + 1) u).length = (u.kids.flatMap (nums m)).length + 1 := rfl
    omega
theorem kid_few {l : Nat} {t : Tr (l + 1)} {u : Tr l} (hu : u ∈ t.kids) (few : (nums (l + 1) t).length ≤ 1000) : (nums l u).length ≤ 1000 := by
  obtain ⟨a, b, e⟩ := List.append_of_mem hu
  have h3 : (nums (l + 1) t).length = (t.kids.flatMap (nums l)).length + 1 := rfl
  rw [e, List.flatMap_append, List.flatMap_cons, List.length_append, List.length_append] at h3
  omega
theorem ok_Book_way (T : TX K mg) : FnOk P w K mg base CX0 2 (He.ma K (He.ga K "Book") "way") T.fd_Book_way ["self", "key"] (sp_Book_way K) := by
  have G_kid_place : FnOk P w K mg base CX0 1 (He.ga K "kid_place") T.fd_kid_place ["keys", "key"] sp_kid_place := ok_kid_place T
  have b_kid_place := b_kid_place T
  refine T.F_Book_way.ok sc_Book_way (fun vs H Q E h => ?_) (fun cdv A outer st H vs Q E hr h => ?_)
  · obtain ⟨s, dx, d, room, half, k, l, t, S, rfl, _⟩ := h
    rfl
  · obtain ⟨s, dx, d, room, half, k, l, t, S, rfl, hs, hd, hL, hK, few, hl, kq⟩ := h
    refine ⟨_, PSs.nox (pss_cons (ps_set (i := 2) sc_Book_way.nd rfl (Or.inl rfl) (pe_lst (pa_cons (pe_fld (pv 0) rfl) pa_nil)))
 (pss_cons (ps_set (i := 3) sc_Book_way.nd rfl (Or.inl rfl) (pe_dget (hu_of hr) (pe_fld (pv 0) rfl) (pe_fld (pv 0) rfl) (fun _ _ => rfl)))
 (pss_cons (ps_while PassesOwn.never (pt_cmpR op_eq (pe_ix ix_tup (pv 3) pe_int (fun _ _ => rfl)) pe_str (nomark _))
 (pss_cons (ps_asg (pv 3) (pg_tup rfl (pgs_cons (pg_name (i := 4) sc_Book_way.nd rfl (Or.inl rfl)) (pgs_cons (pg_name (i := 5) sc_Book_way.nd rfl (Or.inl rfl)) (pgs_cons (pg_name (i := 6) sc_Book_way.nd rfl (Or.inl rfl)) pgs_nil)))))
 (pss_cons (ps_expr (pe_bm PySem.F.plainAttrs_list PySem.F.slot_list_append PySem.F.type_list_append mt_append (pv 2) (pa_cons (pe_ix ix_tup (pv 6) (pe_call G_kid_place (hr.mono (by first | decide | omega)) rfl T.g_kid_place T.F_kid_place.kp b_kid_place .nil pass0 (pa_cons (pv 5) (pa_cons (pv 1) pa_nil))) (fun _ _ => rfl)) pa_nil)))
 (pss_one (ps_set (i := 3) sc_Book_way.nd rfl (Or.inl rfl) (pe_dget (hu_of hr) (pe_fld (pv 0) rfl) (pe_ix ix_list (pv 2) (pe_un un_neg pe_int) (fun _ _ => rfl)) (fun _ _ => rfl)))))))
 (pss_one (ps_ret (pe_callTy RU.call_tupS rfl T.n_tuple (by decide +kernel) (pa_cons (pv 2) pa_nil))))))), ?_⟩
    have lr : (bfs room (num l t) half d).lookup ("root" : Str) = some (.int (num l t)) := lk_miss (by decide +kernel) (lk_miss (by decide +kernel) (lk_hit _ _ _))
    have lp : (bfs room (num l t) half d).lookup ("pages" : Str) = some (.ref d) := lk_hit _ _ _
    refine ⟨_, rfl, s, _, dx, _, _, rfl, hs, T.cl_Book, T.na_Book_root, lr, by show 1 ≤ sizeLine; decide, fun n hn => ?_⟩
    have s1 : Same H (upd H n (.lst [.int (num l t)])) := same_new hn
    have hn1 : upd H n (.lst [.int (num l t)]) n = some (.lst [.int (num l t)]) := upd_same
    generalize upd H n (.lst [.int (num l t)]) = H1 at s1 hn1
    obtain ⟨g, hg⟩ := laid_some hL
    obtain ⟨v0, hv0, hp0⟩ := (hd.same s1).get hg
    refine ⟨_, rfl, s, _, dx, _, _, rfl, s1 _ _ hs, T.cl_Book, T.na_Book_pages, lp, _, rfl, s, _, dx, _, _, rfl, s1 _ _ hs, T.cl_Book, T.na_Book_root, lr, d, _, rfl, hv0, ?_⟩
    refine ⟨fun m σ H' => ∃ (v4 v5 v6 : Option V) (u : Tr m) (pre : List Int) (pv : V) (g : Pg), σ = [some (.ref s), some (.int k), some (.ref n), some pv, v4, v5, v6] ∧ Same H H' ∧ H' n = some (.lst ((pre ++ [num m u]).map V.int)) ∧
      lkp S (num m u) = some g ∧ PgAt H' pv g ∧ Laid S m u ∧ KeyOk m u ∧ (nums m u).length ≤ 1000 ∧ pre.length + m ≤ 100 ∧ wayOf l t k = pre ++ wayOf m u k, ⟨l, _, _, _, t, [], v0, g, rfl, s1, hn1, hg, hp0, hL, hK, few, by show 0 + l ≤ 100; omega, rfl⟩, ?_⟩
    rintro m σ H2 ⟨v4, v5, v6, u, pre, pv, g, rfl, s2, hn2, hg2, hp2, hL2, hK2, few2, hpre, hway⟩
    cases m with
    | zero =>
      obtain ⟨nx, hg3⟩ := hL2
      rw [hg3] at hg2
      cases hg2
      obtain ⟨t1, q, rfl, ht1, _⟩ := hp2
      refine ⟨_, rfl, t1, _, _, _, rfl, rfl, SqT.of ht1, rfl, rfl, _, rfl, iteF ?_⟩
      refine ⟨_, rfl, n, _, rfl, SqL.of hn2, fun a H' sa _ ha => ?_⟩
      refine kq H' a (s2.trans sa) ?_
      rw [hway]
      exact ha
    | succ m =>
      obtain ⟨hg3, hkids⟩ := hL2
      rw [hg3] at hg2
      cases hg2
      obtain ⟨t1, q1, q2, rfl, ht1, hq1, hq2⟩ := hp2
      refine ⟨_, rfl, t1, _, _, _, rfl, rfl, SqT.of ht1, rfl, rfl, _, rfl, iteT ?_⟩
      refine ⟨_, fun σ' H' h => ⟨m, Nat.lt_succ_self m, h⟩, ?_⟩
      obtain ⟨x, hx, mx⟩ := place_lt hK2 k
      have kf := keys_few hK2 few2 rfl (HEq.refl u)
      refine ⟨_, rfl, t1, _, rfl, SqT.of ht1, rfl, _, _, rfl, _, _, rfl, _, _, rfl, rfl, ?_⟩
      refine ⟨_, rfl, .inl ⟨rfl, _, SqL.of hn2⟩, _, rfl, _, rfl, _, rfl, q1, u.keys, k, rfl, hq1, kf, fun H3 s3 => ?_⟩
      refine ⟨q2, _, _, _, rfl, rfl, (hq2.same s3).sq, at_of (j := placeOf u.keys k) (v := V.int (num m x)) (by rw [List.getElem?_map, List.getElem?_map, hx]; rfl) rfl, ?_⟩
      refine ⟨n, _, _, rfl, rfl, s3 _ _ hn2, ?_, ?_⟩
      · rw [List.length_map, List.length_append]
        exact Nat.lt_of_le_of_lt (by show _ + 1 ≤ 1000; omega) (by decide)
      have s4 : Same H (upd H3 n (.lst ((pre ++ [num (m + 1) u]).map V.int ++ [V.int (num m x)]))) := fun b o e => by
        rw [upd_ne (ne_of_none e hn)]
        exact s3 _ _ (s2 b o e)
      have hn4 : upd H3 n (.lst ((pre ++ [num (m + 1) u]).map V.int ++ [V.int (num m x)])) n = some (.lst (((pre ++ [num (m + 1) u]) ++ [num m x]).map V.int)) := by
        rw [upd_same, List.map_append (l₁ := pre ++ [num (m + 1) u])]
        rfl
      generalize upd H3 n (.lst ((pre ++ [num (m + 1) u]).map V.int ++ [V.int (num m x)])) = H4 at s4 hn4
      obtain ⟨g4, hg4⟩ := laid_some (hkids x mx)
      obtain ⟨v7, hv7, hp7⟩ := (hd.same s4).get hg4
      have hlast : atI (((pre ++ [num (m + 1) u]) ++ [num m x]).map V.int) (-1) = some (.int (num m x)) := at_last (n := pre.length + 1) (by simp) (by simp)
      refine ⟨_, rfl, s, _, dx, _, _, rfl, s4 _ _ hs, T.cl_Book, T.na_Book_pages, lp, _, rfl, 1, rfl, n, _, _, _, rfl, rfl, SqL.of hn4, hlast, d, _, rfl, hv7, ?_⟩
      refine ⟨_, _, _, x, pre ++ [num (m + 1) u], v7, g4, rfl, s4, hn4, hg4, hp7, hkids x mx, hK2.2.2.2 x mx, kid_few mx few2, by rw [List.length_append]; show _ + 1 + m ≤ 100; omega, ?_⟩
      rw [hway, List.append_assoc]
      show pre ++ (num (m + 1) u :: (match u.kids[placeOf u.keys k]? with
        | some u => wayOf m u k
        | none => [])) = _
      rw [hx]
      rfl
end
end K12

namespace K12
open PySem PySem.Spec PyProof.Rows L2 RZ HX TR
theorem cS_few : ∀ room l : Nat, 3 ≤ room → room ≤ 8 → (l ≤ 2 ∨ (l ≤ 3 ∧ room ≤ 4) ∨ (l ≤ 5 ∧ room = 3)) → cS room l ≤ 600 := by
  intro room l h1 h2 h3
  have : (room = 3 ∨ room = 4 ∨ room = 5 ∨ room = 6 ∨ room = 7 ∨ room = 8) := by omega
  have : (l = 0 ∨ l = 1 ∨ l = 2 ∨ l = 3 ∨ l = 4 ∨ l = 5) := by omega
  rcases ‹room = 3 ∨ _› with rfl | rfl | rfl | rfl | rfl | rfl <;> rcases ‹l = 0 ∨ _› with rfl | rfl | rfl | rfl | rfl | rfl <;> first | decide | omega
section
variable {P : Program} {w : World} {K : PySem.W.Frag} {mg : Str → Option Value} {base : Heap}
def sp_law_world : Sp := fun vs H Q _ => ∃ (p : Addr) (k : Nat) (B : Int), vs = [.ref p, .int (k : Int)] ∧ PotOk H p B ∧ B < 2 ^ 37 ∧
  ∀ (H' : Hp) (v : V) (room l : Nat) (t : Tr l) (S : List (Int × Pg)), But p H H' → PotOk H' p (B + 300000) → l < 6 → SndAt H' v room l t S → Q v H'
theorem ok_law_world (T : TX K mg) : FnOk P w K mg base CX0 10 (He.ga K "_law_world") T.fd_law_world ["pot", "k"] sp_law_world := by
  have G_law_take : FnOk P w K mg base CX0 1 (He.ga K "_law_take") T.fd_law_take ["pot", "many"] sp_law_take := ok_law_take T
  have b_law_take := b_law_take T
  have G_law_tree : FnOk P w K mg base CX0 9 (He.ga K "_law_tree") T.fd_law_tree ["pot", "room", "levels", "wide"] sp_law_tree := ok_law_tree T
  have b_law_tree := b_law_tree T
  refine T.F_law_world.ok sc_law_world (fun vs H Q E h => ?_) (fun cdv A outer st H vs Q E hr h => ?_)
  · obtain ⟨p, k, B, rfl, _⟩ := h
    rfl
  · obtain ⟨p, k, B, rfl, hp, hB, kq⟩ := h
    refine ⟨_, PSs.nox (Evl.pss_cut (ps_set (i := 2) sc_law_world.nd rfl (Or.inl rfl) (pe_op op_add pe_int (pe_call G_law_take (hr.mono (by first | decide | omega)) rfl T.g_law_take T.F_law_take.kp b_law_take .nil pass0 (pa_cons (pv 0) (pa_cons pe_int pa_nil)))))
 (Evl.pss_cut (ps_set (i := 3) sc_law_world.nd rfl (Or.inl rfl) (pe_op op_add pe_int (pe_call G_law_take (hr.mono (by first | decide | omega)) rfl T.g_law_take T.F_law_take.kp b_law_take .nil pass0 (pa_cons (pv 0) (pa_cons (pe_ix ix_list (pe_lst (pa_cons pe_int (pa_cons pe_int pa_nil))) (pe_callTy call_int1 rfl T.n_int (by decide +kernel) (pa_cons (pe_cmpR op_gt (pv 1) pe_int (nomark _)) pa_nil)) (fun _ _ => rfl)) pa_nil)))))
 (pss_cons (ps_if (PW.pt (pw_and (pt_cmpR op_eq (pv 1) pe_int (nomark _)) (pw_and (pt_cmpR op_eq (pv 2) pe_int (nomark _)) (pw_and1 (pt_cmpR op_eq (pv 3) pe_int (nomark _))))))
 (pss_one (ps_ret (pe_call G_law_tree (hr.mono (by first | decide | omega)) rfl T.g_law_tree T.F_law_tree.kp b_law_tree .nil pass0 (pa_cons (pv 0) (pa_cons (pv 2) (pa_cons (pe_op op_add pe_int (pe_call G_law_take (hr.mono (by first | decide | omega)) rfl T.g_law_take T.F_law_take.kp b_law_take .nil pass0 (pa_cons (pv 0) (pa_cons pe_int pa_nil)))) (pa_cons pe_int pa_nil)))))))
 pss_nil)
 (pss_one (ps_ret (pe_call G_law_tree (hr.mono (by first | decide | omega)) rfl T.g_law_tree T.F_law_tree.kp b_law_tree .nil pass0 (pa_cons (pv 0) (pa_cons (pv 2) (pa_cons (pe_callB (call_min2 rfl) rfl T.n_min (by decide +kernel) (pa_cons (pv 3) (pa_cons (pe_op op_add pe_int (pe_callTy call_int1 rfl T.n_int (by decide +kernel) (pa_cons (pe_cmpR op_lt (pv 2) pe_int (nomark _)) pa_nil))) pa_nil))) (pa_cons (pe_call G_law_take (hr.mono (by first | decide | omega)) rfl T.g_law_take T.F_law_take.kp b_law_take .nil pass0 (pa_cons (pv 0) (pa_cons (pe_ix ix_list (pe_lst (pa_cons pe_int (pa_cons pe_int pa_nil))) (pe_callTy call_int1 rfl T.n_int (by decide +kernel) (pa_cons (pe_cmpR op_gt (pv 1) pe_int (nomark _)) pa_nil)) (fun _ _ => rfl)) pa_nil))) pa_nil)))))))))), ?_⟩
    refine ⟨fun σ' H' => ∃ room : Nat, σ' = [some (.ref p), some (.int (k : Int)), some (.int (room : Int)), none] ∧ But p H H' ∧ PotOk H' p (B + 1) ∧ 3 ≤ room ∧ room ≤ 8, ?_, ?_⟩
    · refine ⟨_, rfl, p, 6, B, rfl, by decide, by decide, hp, by omega, fun H1 v b1 hp1 l1 u1 => ⟨_, _, rfl, rfl, 3 + v.toNat, ?_, b1, hp1, by omega, by omega⟩⟩
      show [some (V.ref p), some (.int (k : Int)), some (V.int (3 + v)), none] = _
      rw [show 3 + v = ((3 + v.toNat : Nat) : Int) by omega]
    rintro σ' H1 ⟨room, rfl, b1, hp1, r3, r8⟩
    refine ⟨fun σ' H' => ∃ lv : Nat, σ' = [some (.ref p), some (.int (k : Int)), some (.int (room : Int)), some (.int (lv : Int))] ∧ But p H H' ∧ PotOk H' p (B + 2) ∧ 1 ≤ lv ∧ lv ≤ 4, ?_, ?_⟩
    · refine ⟨_, rfl, by show 2 ≤ sizeLine; decide, fun q hq => ?_⟩
      refine ⟨_, rfl, _, _, rfl, rfl, .inr ⟨_, rfl, ?_⟩⟩
      obtain ⟨v, hq5, hv, hvv⟩ := pick2 (c := decide ((7 : Int) < (k : Int))) (upd_same : upd H1 q (.lst [.int 4, .int 2]) q = some (.lst [.int 4, .int 2]))
      refine ⟨q, _, _, _, rfl, rfl, SqL.of hq5, hv, p, v, _, rfl, by omega, by omega, hp1.new hq, by omega, fun H2 z b2 hp2 l2 u2 => ⟨_, _, rfl, rfl, 1 + z.toNat, ?_, fun b o n e => ?_, hp2.le (by omega), by omega, by omega⟩⟩
      · show [some (V.ref p), some (.int (k : Int)), some (V.int (room : Int)), some (V.int (1 + z))] = _
        rw [show 1 + z = ((1 + z.toNat : Nat) : Int) by omega]
      · have e1 := b1 b o n e
        exact b2 b o n (by rw [upd_ne (ne_of_none e1 hq)]; exact e1)
    rintro σ' H2 ⟨lv, rfl, b2, hp2, l1, l4⟩
    have eX : ∃ l : Nat, (if (3 + (if decide ((room : Int) < 5) = true then 1 else 0) : Int) < (lv : Int) then (3 + (if decide ((room : Int) < 5) = true then 1 else 0) : Int) else (lv : Int)) = ((l + 1 : Nat) : Int) ∧ (l ≤ 2 ∨ (l ≤ 3 ∧ room ≤ 4) ∨ (l ≤ 5 ∧ room = 3)) ∧ l < 6 := by
      by_cases c : room < 5
      · rw [if_pos (decide_eq_true (by omega : (room : Int) < 5))]
        refine ⟨lv - 1, ?_, ?_, by omega⟩
        · rw [if_neg (by omega)]
          omega
        · omega
      · have e5 : decide ((room : Int) < 5) = false := decide_eq_false (by omega)
        have e6 : (if (false = true) then (1 : Int) else 0) = 0 := rfl
        rw [e5, e6]
        by_cases c2 : lv = 4
        · refine ⟨2, ?_, by omega, by omega⟩
          rw [if_pos (by omega)]
          rfl
        · refine ⟨lv - 1, ?_, by omega, by omega⟩
          rw [if_neg (by omega)]
          omega
    obtain ⟨l, hX, hcl, hl5⟩ := eX
    refine ⟨_, rfl, rfl, _, rfl, ?_⟩
    by_cases c1 : k = 0
    · have e1 : decide (V.int (k : Int) = V.int 0) = true := decide_eq_true (by rw [c1]; rfl)
      refine (congrArg (fun b => (if b = true then _ else _)) e1).mpr (iteT ?_)
      refine ⟨_, rfl, rfl, _, rfl, ?_⟩
      by_cases c2 : room = 3
      · have e2 : decide (V.int (room : Int) = V.int 3) = true := decide_eq_true (by rw [c2]; rfl)
        refine (congrArg (fun b => (if b = true then _ else _)) e2).mpr (iteT ?_)
        refine ⟨_, rfl, rfl, _, rfl, ?_⟩
        by_cases c3 : lv = 4
        · have e3 : decide (V.int (lv : Int) = V.int 4) = true := decide_eq_true (by rw [c3]; rfl)
          refine (congrArg (fun b => (if b = true then _ else _)) e3).mpr (iteT ?_)
          refine ⟨_, rfl, _, rfl, _, rfl, p, 3, _, rfl, by decide, by decide, hp2, by omega, fun H3 z b3 hp3 l3 u3 => ⟨_, _, rfl, rfl, ?_⟩⟩
          refine ⟨p, room, 3 + z.toNat, 0, _, ?_, by omega, r3, r8, by omega, cS_few room _ r3 r8 (by omega), hp3, by omega, fun H4 v t S b4 hp4 hT hA => kq H4 v room _ t S (fun b o n e => b4 b o n (b3 b o n (b2 b o n e))) (hp4.le (by omega)) (by omega) ⟨hT, hA⟩⟩
          show [V.ref p, V.int (room : Int), V.int (4 + z), V.int 0] = [V.ref p, V.int (room : Int), V.int ((3 + z.toNat + 1 : Nat) : Int), V.int ((0 : Nat) : Int)]
          rw [show 4 + z = ((3 + z.toNat + 1 : Nat) : Int) by omega]
          rfl
        · have e3 : decide (V.int (lv : Int) = V.int 4) = false := decide_eq_false fun z => c3 (by injection z; omega)
          refine (congrArg (fun b => (if b = true then _ else _)) e3).mpr (iteF ?_)
          refine ⟨_, rfl, _, rfl, _, rfl, _, rfl, _, _, rfl, rfl, .inr ⟨_, rfl, _, _, rfl, rfl, _, _, rfl, ?_⟩⟩
          refine ⟨_, rfl, by show 2 ≤ sizeLine; decide, fun q hq => ⟨_, rfl, _, _, rfl, rfl, .inr ⟨_, rfl, ?_⟩⟩⟩
          obtain ⟨v, hq5, hv, hvv⟩ := pick2 (c := decide ((0 : Int) < (k : Int))) (upd_same : upd H2 q (.lst [.int 4, .int 2]) q = some (.lst [.int 4, .int 2]))
          refine ⟨q, _, _, _, rfl, rfl, SqL.of hq5, hv, p, v, _, rfl, by omega, by omega, hp2.new hq, by omega, fun H3 z b3 hp3 l3 u3 => ?_⟩
          refine ⟨p, room, l, z.toNat, _, ?_, hl5, r3, r8, by omega, cS_few room l r3 r8 hcl, hp3, by omega, fun H4 v t S b4 hp4 hT hA => kq H4 v room l t S (fun b o n e => b4 b o n (b3 b o n ?_)) (hp4.le (by omega)) (by omega) ⟨hT, hA⟩⟩
          · show [V.ref p, V.int (room : Int), V.int (if (3 + (if decide ((room : Int) < 5) = true then 1 else 0) : Int) < (lv : Int) then (3 + (if decide ((room : Int) < 5) = true then 1 else 0) : Int) else (lv : Int)), V.int z] = [V.ref p, V.int (room : Int), V.int ((l + 1 : Nat) : Int), V.int (z.toNat : Int)]
            rw [hX, show ((z.toNat : Nat) : Int) = z by omega]
          · have e2 := b2 b o n e
            rw [upd_ne (ne_of_none e2 hq)]
            exact e2
      · have e2 : decide (V.int (room : Int) = V.int 3) = false := decide_eq_false fun z => c2 (by injection z; omega)
        refine (congrArg (fun b => (if b = true then _ else _)) e2).mpr (iteF (iteF ?_))
        refine ⟨_, rfl, _, rfl, _, rfl, _, rfl, _, _, rfl, rfl, .inr ⟨_, rfl, _, _, rfl, rfl, _, _, rfl, ?_⟩⟩
        refine ⟨_, rfl, by show 2 ≤ sizeLine; decide, fun q hq => ⟨_, rfl, _, _, rfl, rfl, .inr ⟨_, rfl, ?_⟩⟩⟩
        obtain ⟨v, hq5, hv, hvv⟩ := pick2 (c := decide ((0 : Int) < (k : Int))) (upd_same : upd H2 q (.lst [.int 4, .int 2]) q = some (.lst [.int 4, .int 2]))
        refine ⟨q, _, _, _, rfl, rfl, SqL.of hq5, hv, p, v, _, rfl, by omega, by omega, hp2.new hq, by omega, fun H3 z b3 hp3 l3 u3 => ?_⟩
        refine ⟨p, room, l, z.toNat, _, ?_, hl5, r3, r8, by omega, cS_few room l r3 r8 hcl, hp3, by omega, fun H4 v t S b4 hp4 hT hA => kq H4 v room l t S (fun b o n e => b4 b o n (b3 b o n ?_)) (hp4.le (by omega)) (by omega) ⟨hT, hA⟩⟩
        · show [V.ref p, V.int (room : Int), V.int (if (3 + (if decide ((room : Int) < 5) = true then 1 else 0) : Int) < (lv : Int) then (3 + (if decide ((room : Int) < 5) = true then 1 else 0) : Int) else (lv : Int)), V.int z] = [V.ref p, V.int (room : Int), V.int ((l + 1 : Nat) : Int), V.int (z.toNat : Int)]
          rw [hX, show ((z.toNat : Nat) : Int) = z by omega]
        · have e2 := b2 b o n e
          rw [upd_ne (ne_of_none e2 hq)]
          exact e2
    · have e1 : decide (V.int (k : Int) = V.int 0) = false := decide_eq_false fun z => c1 (by injection z; omega)
      refine (congrArg (fun b => (if b = true then _ else _)) e1).mpr (iteF (iteF ?_))
      refine ⟨_, rfl, _, rfl, _, rfl, _, rfl, _, _, rfl, rfl, .inr ⟨_, rfl, _, _, rfl, rfl, _, _, rfl, ?_⟩⟩
      refine ⟨_, rfl, by show 2 ≤ sizeLine; decide, fun q hq => ⟨_, rfl, _, _, rfl, rfl, .inr ⟨_, rfl, ?_⟩⟩⟩
      obtain ⟨v, hq5, hv, hvv⟩ := pick2 (c := decide ((0 : Int) < (k : Int))) (upd_same : upd H2 q (.lst [.int 4, .int 2]) q = some (.lst [.int 4, .int 2]))
      refine ⟨q, _, _, _, rfl, rfl, SqL.of hq5, hv, p, v, _, rfl, by omega, by omega, hp2.new hq, by omega, fun H3 z b3 hp3 l3 u3 => ?_⟩
      refine ⟨p, room, l, z.toNat, _, ?_, hl5, r3, r8, by omega, cS_few room l r3 r8 hcl, hp3, by omega, fun H4 v t S b4 hp4 hT hA => kq H4 v room l t S (fun b o n e => b4 b o n (b3 b o n ?_)) (hp4.le (by omega)) (by omega) ⟨hT, hA⟩⟩
      · show [V.ref p, V.int (room : Int), V.int (if (3 + (if decide ((room : Int) < 5) = true then 1 else 0) : Int) < (lv : Int) then (3 + (if decide ((room : Int) < 5) = true then 1 else 0) : Int) else (lv : Int)), V.int z] = [V.ref p, V.int (room : Int), V.int ((l + 1 : Nat) : Int), V.int (z.toNat : Int)]
        rw [hX, show ((z.toNat : Nat) : Int) = z by omega]
      · have e2 := b2 b o n e
        rw [upd_ne (ne_of_none e2 hq)]
        exact e2
end
end K12

namespace K12
open PySem PySem.Spec PyProof.Rows L2 RZ HX TR
def lfs : (l : Nat) → Tr l → List (Tr 0)
  | 0, t => [t]
  | l + 1, t => t.kids.flatMap (lfs l)
theorem lfs_num : ∀ {l : Nat} {t : Tr l}, (lfs l t).map (num 0) = lvs l t
  | 0, _ => rfl
  | l + 1, t => by
    show (t.kids.flatMap (lfs l)).map (num 0) = t.kids.flatMap (lvs l)
    rw [List.map_flatMap]
    congr 1
    funext u
    exact lfs_num
theorem lfs_prs : ∀ {l : Nat} {t : Tr l}, (lfs l t).flatMap Tr.ps = prs l t
  | 0, t => by
    show [t].flatMap Tr.ps = t.ps
    simp
  | l + 1, t => by
    show (t.kids.flatMap (lfs l)).flatMap Tr.ps = t.kids.flatMap (prs l)
    rw [List.flatMap_assoc]
    congr 1
    funext u
    exact lfs_prs
theorem lfs_laid {S : List (Int × Pg)} : ∀ {l : Nat} {t : Tr l}, Laid S l t → ∀ u ∈ lfs l t, Laid S 0 u
  | 0, t, h, u, hu => by
    obtain rfl := List.mem_singleton.mp hu
    exact h
  | l + 1, t, h, u, hu => by
    obtain ⟨k, hk, hu⟩ := List.mem_flatMap.mp hu
    exact lfs_laid (h.2 k hk) u hu
theorem paired_app {α β : Type} {R : α → β → Prop} : ∀ {xs : List α} {ys : List β} {xs' : List α} {ys' : List β}, Paired R xs ys → Paired R xs' ys' → Paired R (xs ++ xs') (ys ++ ys')
  | _, _, _, _, .nil, h => h
  | _, _, _, _, .cons r rs, h => .cons r (paired_app rs h)
section
variable {P : Program} {w : World} {K : PySem.W.Frag} {mg : Str → Option Value} {base : Heap}
/-- a row of pairs just made: one knows that it has no dict -/
def PrF (H : Hp) (a : Addr) (ps : List (Int × Int)) : Prop := ∃ (o : Obj) (xs : List V), H a = some (.frz o (.tup xs)) ∧ o.dict = none ∧ Paired (PrAt H) xs ps
def sp_law_pairs_of : Sp := fun vs H Q _ => ∃ (v : V) (room l : Nat) (t : Tr l) (S : List (Int × Pg)), vs = [v] ∧ SndAt H v room l t S ∧ l < 6 ∧ (prs l t).length ≤ 100000 ∧
  ∀ (H' : Hp) (a : Addr), Same H H' → PrF H' a (prs l t) → Q (.ref a) H'
end
end K12

namespace K12
open PySem PySem.Spec PyProof.Rows L2 RZ HX TR RP
/-! ### a tree as data -/
def prD (p : Int × Int) : PyData := .tuple [.int p.1, .int p.2]
def pgD : Pg → PyData
  | .leaf ps nx => .tuple [.str "leaf", .tuple (ps.map prD), .int nx]
  | .node ks kids => .tuple [.str "node", .tuple (ks.map PyData.int), .tuple (kids.map PyData.int)]
def numD (q : Int × Pg) : PyData := .tuple [.int q.1, pgD q.2]
def treeD (room root : Int) (S : List (Int × Pg)) : PyData := .tuple [.int room, .int root, .tuple (S.map numD)]
section
variable {K : PySem.W.Frag} {H : Hp}
theorem pr_dp {x : V} {p : Int × Int} (h : PrAt H x p) : Dp K H x (prD p) := by
  obtain ⟨t, rfl, ht⟩ := h
  exact .tup (SqT.of ht) (.cons (.int _) (.cons (.int _) .nil))
theorem pg_dp {v : V} : ∀ {g : Pg}, PgAt H v g → Dp K H v (pgD g)
  | .leaf ps nx, ⟨t, q, e, h1, xs, h2, h3⟩ => by
    subst e
    exact .tup (SqT.of h1) (.cons (.str _) (.cons (.tup h2.sq (dpAll_of (fun _ _ r => pr_dp r) h3)) (.cons (.int _) .nil)))
  | .node ks kids, ⟨t, q1, q2, e, h1, h2, h3⟩ => by
    subst e
    exact .tup (SqT.of h1) (.cons (.str _) (.cons (.tup (SqT.of h2) (dpa_ints _)) (.cons (.tup h3.sq (dpa_ints _)) .nil)))
theorem tree_dp {v : V} {room root : Int} {S : List (Int × Pg)} (h : TreeAt H v room root S) : ∃ a, v = .ref a ∧ Dp K H v (treeD room root S) := by
  obtain ⟨a, b, o, xs, rfl, ha, hb, ho, hx⟩ := h
  refine ⟨a, rfl, .tup (SqT.of ha) (.cons (.int _) (.cons (.int _) (.cons (.tup (sqF hb) (dpAll_of (fun x q r => ?_) hx)) .nil)))⟩
  obtain ⟨t, w, rfl, ht, hg⟩ := r
  exact .tup (SqT.of ht) (.cons (.int _) (.cons (pg_dp hg) .nil))
end
theorem pr_nice {p : Int × Int} (h : GoodPr p) : Nice (prD p) 62 1 := by
  obtain ⟨h1, h2, h3, h4⟩ := h
  exact (NiceAll.cons (nice_int30 (by omega) (by omega)) (NiceAll.cons (nice_int30 (by omega) (by omega)) NiceAll.nil (Nat.zero_le 0)) (Nat.zero_le 0)).tup
theorem ints_nice {ks : List Int} (h : ∀ k ∈ ks, 0 ≤ k ∧ k ≤ 1000000000) (hl : ks.length ≤ 8) : Nice (.tuple (ks.map PyData.int)) 248 1 := by
  refine nice_tup (n := 30) (fun d hd => ?_) (by rw [List.length_map]; omega)
  obtain ⟨k, hk, rfl⟩ := List.mem_map.mp hd
  have := h k hk
  exact nice_int30 (by omega) (by omega)
theorem pg_nice : ∀ {g : Pg}, PgOk g → Pg.parts g ≤ 8 → Nice (pgD g) 541 3
  | .leaf ps nx, ⟨h1, h2, h3, h4, h5⟩, h => by
    have hp : ps.length ≤ 8 := h
    have a : Nice (.tuple (ps.map prD)) 504 2 := nice_tup (n := 62) (fun d hd => by
      obtain ⟨q, hq, rfl⟩ := List.mem_map.mp hd
      exact pr_nice (h1 q hq)) (by rw [List.length_map]; omega)
    exact (NiceAll.cons (k := 2) nice_leaf (NiceAll.cons a (NiceAll.cons (nice_int30 (by omega) (by omega)) NiceAll.nil (Nat.zero_le 2)) (Nat.le_refl 2)) (Nat.zero_le 2)).tup.le (by omega) (by omega)
  | .node ks kids, ⟨h1, h2, h3, h4, h5⟩, h => by
    have hp : kids.length ≤ 8 := h
    have a := ints_nice h2 (by omega)
    have b := ints_nice (fun k hk => ⟨by have := h3 k hk; omega, by have := h3 k hk; omega⟩) hp
    exact (NiceAll.cons (k := 2) nice_node (NiceAll.cons a (NiceAll.cons b NiceAll.nil (by omega)) (by omega)) (Nat.zero_le 2)).tup.le (by omega) (by omega)
theorem tree_few {room l : Nat} {t : Tr l} {S : List (Int × Pg)} (h : TR.Tree room l t S) : S.length ≤ 1000 := by
  have z := h.perm.length_eq
  rw [List.length_map] at z
  have := h.few
  omega
theorem tree_parts {room l : Nat} {t : Tr l} {S : List (Int × Pg)} (h : TR.Tree room l t S) : ∀ q ∈ S, Pg.parts q.2 ≤ room := fun q hq => by
  have m : q.1 ∈ nums l t := h.perm.mem_iff.mp (List.mem_map_of_mem hq)
  have ndS : (S.map (·.1)).Nodup := h.perm.nodup_iff.mpr h.nodup
  have e := mem_lkp ndS hq
  rcases fit_all h.laid h.wf q.1 m with z | ⟨g, e2, _, z⟩
  · obtain ⟨g, e2, _, z2, _⟩ := fit_root h.laid h.wf
    rw [← z, e] at e2
    cases e2
    exact z2
  · rw [e] at e2
    cases e2
    exact z
theorem tree_nice {room l : Nat} {t : Tr l} {S : List (Int × Pg)} (h : TR.Tree room l t S) : Nice (treeD room (num l t) S) 600000 6 := by
  have h3 := h.r3
  have h8 := h.r8
  have hn := h.range (num l t) (by cases l with | zero => exact List.mem_singleton.mpr rfl | succ l => exact List.mem_cons_self ..)
  have a : Nice (.tuple (S.map numD)) 574000 5 := nice_tup (n := 573) (fun d hd => by
    obtain ⟨q, hq, rfl⟩ := List.mem_map.mp hd
    obtain ⟨g1, g2, g3⟩ := K12.Tree.pgOk h q hq
    have p8 := tree_parts h q hq
    exact (NiceAll.cons (k := 3) (nice_int30 (by omega) (by omega)) (NiceAll.cons (pg_nice g3 (by omega)) NiceAll.nil (Nat.le_refl 3)) (Nat.zero_le 3)).tup) (by rw [List.length_map]; have := tree_few h; omega)
  exact (NiceAll.cons (k := 5) (nice_int30 (by omega) (by omega)) (NiceAll.cons (nice_int30 (by omega) (by omega)) (NiceAll.cons a NiceAll.nil (Nat.le_refl 5)) (Nat.zero_le 5)) (Nat.zero_le 5)).tup.le (by omega) (by omega)
/-- how many pairs -/
theorem lfs_few {room : Nat} : ∀ {l : Nat} {top : Bool} {t : Tr l}, WfSh room l top (shp l t) → ∀ u ∈ lfs l t, u.ps.length ≤ room
  | 0, _, t, h, u, hu => by
    obtain rfl := List.mem_singleton.mp hu
    exact h.2
  | l + 1, _, t, h, u, hu => by
    obtain ⟨s, hs, hu⟩ := List.mem_flatMap.mp hu
    exact lfs_few (h.2.2 _ (List.mem_map_of_mem hs)) u hu
theorem prs_few {room l : Nat} {t : Tr l} {S : List (Int × Pg)} (h : TR.Tree room l t S) : (prs l t).length ≤ 8000 := by
  have h8 := h.r8
  have few := h.few
  have ll := lvs_len (l := l) (t := t)
  have e := congrArg List.length (lfs_prs (l := l) (t := t))
  rw [List.length_flatMap] at e
  have s := sum_le (f := fun u : Tr 0 => u.ps.length) (c := 8) (xs := lfs l t) fun u hu => Nat.le_trans (lfs_few h.wf u hu) h8
  have e2 : (lfs l t).length = (lvs l t).length := by rw [← lfs_num, List.length_map]
  rw [← e]
  refine Nat.le_trans s ?_
  omega
end K12

namespace K12
open PySem PySem.Spec PyProof.Rows L2 RZ HX TR
section
variable {P : Program} {w : World} {K : PySem.W.Frag} {mg : Str → Option Value} {base : Heap}
def sp_way_to : Sp := fun vs H Q _ => ∃ (v : V) (k : Int) (room l : Nat) (t : Tr l) (S : List (Int × Pg)), vs = [v, .int k] ∧ SndAt H v room l t S ∧ 0 ≤ k ∧ k ≤ 1000000000 ∧ l ≤ 100 ∧
  ∀ (H' : Hp) (a : Addr), Same H H' → RU.FzT H' a ((wayOf l t k).map V.int) → Q (.ref a) H'
theorem ok_way_to (T : TX K mg) : FnOk P w K mg base CX0 13 (He.ga K "way_to") T.fd_way_to ["tree", "key"] sp_way_to := by
  have G_need_tree : FnOk P w K mg base CX0 12 (He.ga K "need_tree") T.fd_need_tree ["thing"] sp_need_tree := ok_need_tree T
  have b_need_tree := b_need_tree T
  have G_need_key : FnOk P w K mg base CX0 4 (He.ga K "need_key") T.fd_need_key ["thing"] sp_need_key := ok_need_key T
  have b_need_key := b_need_key T
  have G_Book_init : FnOk P w K mg base CX0 2 (He.ma K (He.ga K "Book") "__init__") T.fd_Book_init ["self", "tree"] (sp_Book_init K) := ok_Book_init T
  have b_Book_init := b_Book_init T
  have G_Book_way : FnOk P w K mg base CX0 2 (He.ma K (He.ga K "Book") "way") T.fd_Book_way ["self", "key"] (sp_Book_way K) := ok_Book_way T
  have b_Book_way := b_Book_way T
  refine T.F_way_to.ok sc_way_to (fun vs H Q E h => ?_) (fun cdv A outer st H vs Q E hr h => ?_)
  · obtain ⟨v, k, room, l, t, S, rfl, _⟩ := h
    rfl
  · obtain ⟨v, k, room, l, t, S, rfl, ⟨h, hT⟩, k0, k1, hl, kq⟩ := h
    refine ⟨_, PSs.nox (pss_cons (ps_expr (pe_call G_need_tree (hr.mono (by first | decide | omega)) rfl T.g_need_tree T.F_need_tree.kp b_need_tree .nil pass0 (pa_cons (pv 0) pa_nil)))
 (pss_cons (ps_expr (pe_call G_need_key (hr.mono (by first | decide | omega)) rfl T.g_need_key T.F_need_key.kp b_need_key .nil pass0 (pa_cons (pv 1) pa_nil)))
 (pss_one (ps_ret (pe_meth (pe_make T.mk_Book G_Book_init (hr.mono (by first | decide | omega)) rfl T.g_Book b_Book_init .nil pass0 (pa_cons (pv 0) pa_nil)) T.cl_Book T.m_Book_way G_Book_way (hr.mono (by first | decide | omega)) b_Book_way .nil pass0 (pa_cons (pv 1) pa_nil)))))), ?_⟩
    refine ⟨_, rfl, v, room, l, t, S, rfl, ⟨h, hT⟩, hl, fun H1 s1 => ?_⟩
    refine ⟨_, rfl, k, rfl, k0, k1, ?_⟩
    have hT1 := hT.same s1
    refine ⟨_, rfl, fun x dx hx hdx nex => ?_⟩
    have s2 : Same H1 (upd (upd H1 dx (.own x)) x (.ins (He.ga K "Book") dx [])) := fun b o e => by
      rw [upd_ne (ne_of_none e hx), upd_ne (ne_of_none e hdx)]
      exact e
    refine ⟨x, dx, v, room, l, t, S, rfl, upd_same, ⟨h, hT1.same s2⟩, fun H3 d b3 hs3 hd3 _ => ⟨rfl, ?_⟩⟩
    have s3 : Same H1 H3 := fun b o e => b3 b o (ne_of_none e hx) (s2 b o e)
    refine ⟨x, dx, _, rfl, hs3, bfs_no (by decide +kernel) (by decide +kernel) (by decide +kernel) (by decide +kernel), ?_⟩
    refine ⟨_, rfl, x, dx, d, _, _, k, l, t, S, rfl, hs3, hd3, h.laid, h.keyOk, h.few, hl, fun H4 a s4 ha => kq H4 a ((s1.trans s3).trans s4) ha⟩
end
end K12

namespace K12
open PySem PySem.Spec PyProof.Rows L2 RZ HX TR RP
/-- a row of pairs as data -/
def prsD (ps : List (Int × Int)) : PyData := .tuple (ps.map prD)
theorem prs_dp {K : PySem.W.Frag} {H : Hp} {a : Addr} {ps : List (Int × Int)} (h : PrT H a ps) : Dp K H (.ref a) (prsD ps) := by
  obtain ⟨xs, ha, hx⟩ := h
  exact .tup ha.sq (dpAll_of (fun _ _ r => pr_dp r) hx)
theorem prF_dp {K : PySem.W.Frag} {H : Hp} {a : Addr} {ps : List (Int × Int)} (h : PrF H a ps) : Dp K H (.ref a) (prsD ps) := by
  obtain ⟨o, xs, ha, _, hx⟩ := h
  exact .tup (sqF ha) (dpAll_of (fun _ _ r => pr_dp r) hx)
theorem PrF.but {H H' : Hp} {p a : Addr} {B : Int} {ps : List (Int × Int)} (h : PrF H a ps) (k : But p H H') (hp : PotOk H p B) : PrF H' a ps := by
  obtain ⟨o, xs, h1, h2, h3⟩ := h
  refine ⟨o, xs, k _ _ (fun z => ?_) h1, h2, paired_imp (fun _ _ r => PrAt.keep (hp.keep k) r) h3⟩
  obtain ⟨x, y, c, h0, _⟩ := hp
  rw [z, h0] at h1
  cases h1
end K12

namespace K12
open PySem PySem.Spec PyProof.Rows L2 RZ HX TR RP
section
variable {P : Program} {w : World} {K : PySem.W.Frag} {mg : Str → Option Value} {base : Heap}
def sp_levels_in : Sp := fun vs H Q _ => ∃ (v : V) (room l : Nat) (t : Tr l) (S : List (Int × Pg)), vs = [v] ∧ SndAt H v room l t S ∧ l ≤ 100 ∧ ∀ (H' : Hp) (a : Addr), Same H H' → LevAt H' a (rows l [t]) → Q (.ref a) H'
theorem ok_levels_in (T : TX K mg) : FnOk P w K mg base CX0 2 (He.ga K "levels_in") T.fd_levels_in ["tree"] sp_levels_in := by
  have G_levels_from : FnOk P w K mg base CX0 1 (He.ga K "levels_from") T.fd_levels_from ["root", "pages"] sp_levels_from := ok_levels_from T
  have b_levels_from := b_levels_from T
  refine T.F_levels_in.ok sc_levels_in (fun vs H Q E h => ?_) (fun cdv A outer st H vs Q E hr h => ?_)
  · obtain ⟨v, room, l, t, S, rfl, _⟩ := h
    rfl
  · obtain ⟨v, room, l, t, S, rfl, ⟨h, a, b, o, xs, rfl, ha, hb, ho, hx⟩, hl, kq⟩ := h
    refine ⟨_, PSs.nox (pss_one (ps_ret (pe_call G_levels_from (hr.mono (by first | decide | omega)) rfl T.g_levels_from T.F_levels_from.kp b_levels_from .nil pass0 (pa_cons (pe_ix ix_tup (pv 0) pe_int (fun _ _ => rfl)) (pa_cons (pe_callTy (RU.call_dictT rfl) rfl T.n_dict (by decide +kernel) (pa_cons (pe_ix ix_tup (pv 0) pe_int (fun _ _ => rfl)) pa_nil)) pa_nil))))), ?_⟩
    have ndS : (S.map (·.1)).Nodup := h.perm.nodup_iff.mpr h.nodup
    obtain ⟨ps, kvs, e, p1, p2, p3⟩ := num_pairs (K := K) hx
    subst e
    refine ⟨_, rfl, a, _, _, _, rfl, rfl, SqT.of ha, rfl, _, rfl, a, _, _, _, rfl, rfl, SqT.of ha, rfl, b, o, ps, kvs, rfl, hb, ho, p1, fun d hd0 => ?_⟩
    obtain ⟨s1, hd⟩ := pages_dict p2 p3 ndS hd0
    generalize upd H d (.dK (mergeK [] kvs)) = H1 at s1 hd
    have z := h.perm.length_eq
    rw [List.length_map] at z
    have few := h.few
    exact ⟨l, t, S, d, rfl, hd, h.laid, h.keyOk, h.nodup, z, by omega, hl, fun H2 a2 s2 h2 => kq H2 a2 (s1.trans s2) h2⟩
def sp_pairs_in : Sp := fun vs H Q _ => ∃ (v : V) (room l : Nat) (t : Tr l) (S : List (Int × Pg)), vs = [v] ∧ SndAt H v room l t S ∧ l ≤ 100 ∧ ∀ (H' : Hp) (a : Addr), Same H H' → PrT H' a (prs l t) → Q (.ref a) H'
end
end K12

namespace K12
open PySem PySem.Spec PyProof.Rows L2 RZ HX TR RP
theorem rows_len1000 {room l : Nat} {t : Tr l} {S : List (Int × Pg)} (h : TR.Tree room l t S) : (rows l [t]).flatten.length ≤ 1000 := by
  have z := (rows_perm [t]).length_eq
  have few := h.few
  simp only [List.flatMap_cons, List.flatMap_nil, List.append_nil] at z
  omega
theorem part_flat {α : Type} {xs : List (List α)} {i : Nat} {x : List α} (h : xs[i]? = some x) (j : Nat) : ((xs.take i).flatten ++ x.take j).length ≤ xs.flatten.length := by
  have e : xs = xs.take i ++ x :: xs.drop (i + 1) := by
    obtain ⟨h1, h2⟩ := List.getElem?_eq_some_iff.mp h
    rw [← h2, ← List.drop_eq_getElem_cons h1, List.take_append_drop]
  conv => rhs; rw [e]
  rw [List.flatten_append, List.flatten_cons, List.length_append, List.length_append, List.length_append]
  have := List.length_take_le' j x
  omega
section
variable {P : Program} {w : World} {K : PySem.W.Frag} {mg : Str → Option Value} {base : Heap}
def sp_height_of : Sp := fun vs H Q _ => ∃ (v : V) (room l : Nat) (t : Tr l) (S : List (Int × Pg)), vs = [v] ∧ SndAt H v room l t S ∧ l ≤ 100 ∧ ∀ H' : Hp, Same H H' → Q (.int ((l + 1 : Nat) : Int)) H'
theorem ok_height_of (T : TX K mg) : FnOk P w K mg base CX0 13 (He.ga K "height_of") T.fd_height_of ["tree"] sp_height_of := by
  have G_need_tree : FnOk P w K mg base CX0 12 (He.ga K "need_tree") T.fd_need_tree ["thing"] sp_need_tree := ok_need_tree T
  have b_need_tree := b_need_tree T
  have G_levels_in : FnOk P w K mg base CX0 2 (He.ga K "levels_in") T.fd_levels_in ["tree"] sp_levels_in := ok_levels_in T
  have b_levels_in := b_levels_in T
  refine T.F_height_of.ok sc_height_of (fun vs H Q E h => ?_) (fun cdv A outer st H vs Q E hr h => ?_)
  · obtain ⟨v, room, l, t, S, rfl, _⟩ := h
    rfl
  · obtain ⟨v, room, l, t, S, rfl, hsnd, hl, kq⟩ := h
    refine ⟨_, PSs.nox (pss_cons (ps_expr (pe_call G_need_tree (hr.mono (by first | decide | omega)) rfl T.g_need_tree T.F_need_tree.kp b_need_tree .nil pass0 (pa_cons (pv 0) pa_nil)))
 (pss_one (ps_ret (pe_callB call_len_seq rfl T.n_len PySem.boot_len (pa_cons (pe_call G_levels_in (hr.mono (by first | decide | omega)) rfl T.g_levels_in T.F_levels_in.kp b_levels_in .nil pass0 (pa_cons (pv 0) pa_nil)) pa_nil))))), ?_⟩
    refine ⟨_, rfl, v, room, l, t, S, rfl, hsnd, hl, fun H1 s1 => ?_⟩
    refine ⟨_, rfl, v, room, l, t, S, rfl, ⟨hsnd.1, hsnd.2.same s1⟩, hl, fun H2 lv s2 ⟨vs, h1, h2⟩ => ⟨lv, vs, rfl, .inl (SqL.of h1), ?_⟩⟩
    rw [h2.length, rows_len]
    exact kq H2 (s1.trans s2)
def sp_by_rank : Sp := fun vs H Q _ => ∃ (v : V) (room l : Nat) (t : Tr l) (S : List (Int × Pg)), vs = [v] ∧ SndAt H v room l t S ∧ l ≤ 100 ∧ ∀ (H' : Hp) (a : Addr), Same H H' → FzT H' a ((0 :: (rows l [t]).flatten).map V.int) → Q (.ref a) H'
theorem ok_by_rank (T : TX K mg) : FnOk P w K mg base CX0 13 (He.ga K "by_rank") T.fd_by_rank ["tree"] sp_by_rank := by
  have G_need_tree : FnOk P w K mg base CX0 12 (He.ga K "need_tree") T.fd_need_tree ["thing"] sp_need_tree := ok_need_tree T
  have b_need_tree := b_need_tree T
  have G_levels_in : FnOk P w K mg base CX0 2 (He.ga K "levels_in") T.fd_levels_in ["tree"] sp_levels_in := ok_levels_in T
  have b_levels_in := b_levels_in T
  refine T.F_by_rank.ok sc_by_rank (fun vs H Q E h => ?_) (fun cdv A outer st H vs Q E hr h => ?_)
  · obtain ⟨v, room, l, t, S, rfl, _⟩ := h
    rfl
  · obtain ⟨v, room, l, t, S, rfl, hsnd, hl, kq⟩ := h
    refine ⟨_, PSs.nox (pss_cons (ps_expr (pe_call G_need_tree (hr.mono (by first | decide | omega)) rfl T.g_need_tree T.F_need_tree.kp b_need_tree .nil pass0 (pa_cons (pv 0) pa_nil)))
 (pss_one (ps_ret (RU.pe_tupS (pa_cons pe_int (StX.pa_star (pe_lc2 (own := [("level", 1), ("number", 2)]) (vs1 := [2]) (g := gName 1) (g1 := gName 2) (tt := tYes) (tt1 := tYes) rfl sc_by_rank.nd (pi_list (pe_call G_levels_in (hr.mono (by first | decide | omega)) rfl T.g_levels_in T.F_levels_in.kp b_levels_in .nil pass0 (pa_cons (pv 0) pa_nil))) (blkOk_by (own := [("level", 1), ("number", 2)]) (N := ["tree", "level", "number"]) (sc := defScope s_by_rank) (by decide +kernel)) (by decide) (fun _ _ _ _ _ => (pg_name (i := 1) sc_by_rank.nd rfl (Or.inl rfl))) (fun _ _ _ _ _ => pts_nil) (fun _ _ _ _ _ => (RP.pi_lstK K (pv 1))) (fun _ _ _ _ _ => (pg_name (i := 2) sc_by_rank.nd rfl (Or.inl rfl))) (fun _ _ _ _ _ => pts_nil) (fun _ _ _ _ _ => (pv 2))) pa_nil)))))), ?_⟩
    refine ⟨_, rfl, v, room, l, t, S, rfl, hsnd, hl, fun H1 s1 => ?_⟩
    refine ⟨_, rfl, v, room, l, t, S, rfl, ⟨hsnd.1, hsnd.2.same s1⟩, hl, fun H2 lv s2 ⟨vs, h1, h2⟩ => ⟨lv, rfl, ⟨_, SqL.of h1⟩, fun D hD => ?_⟩⟩
    have few := rows_len1000 hsnd.1
    refine RU.out_it (walk_list (xs := vs)) (fun i H' => Same H2 H' ∧ H' D = some (.lst ((((rows l [t]).take i).flatten).map V.int))) ⟨same_new hD, upd_same⟩ (fun i H' _ z => SqL.of (z.1 _ _ h1)) ?_ ?_
    · rintro i x H3 H4 hi ⟨s3, hD3⟩ ⟨rfl, hx4⟩
      obtain ⟨r, hr, b, rfl, nb, hb⟩ := pget1 h2 hx4
      refine ⟨rfl, ?_⟩
      dsimp only [tYes]
      rw [if_pos rfl]
      refine ⟨_, rfl, b, rfl, ⟨_, SqL.of (s3 _ _ hb)⟩, ?_⟩
      refine RU.out_it (walk_list (xs := r.map V.int)) (fun j H' => Same H2 H' ∧ H' D = some (.lst ((((rows l [t]).take i).flatten ++ r.take j).map V.int))) ⟨s3, by rw [List.take_zero, List.append_nil]; exact hD3⟩ (fun j H' _ z => SqL.of (z.1 _ _ hb)) ?_ ?_
      · rintro j x H5 H6 hj ⟨s5, hD5⟩ ⟨rfl, hx⟩
        obtain ⟨n, hn, rfl⟩ := map_at hx
        refine ⟨rfl, ?_⟩
        dsimp only [tYes]
        rw [if_pos rfl]
        refine ⟨_, rfl, _, hD5, ?_, same_upd s5 hD, ?_⟩
        · rw [List.length_map]
          exact Nat.lt_of_le_of_lt (Nat.le_trans (part_flat hr j) few) (by decide)
        · rw [upd_same, take_more hn, ← List.append_assoc]
          simp only [List.map_append, List.map_cons, List.map_nil]
      · rintro H5 ⟨s5, hD5⟩
        refine ⟨s5, ?_⟩
        rw [List.length_map, List.take_length] at hD5
        rw [take_more hr, List.flatten_append, List.flatten_cons, List.flatten_nil, List.append_nil]
        exact hD5
    · rintro H3 ⟨s3, hD3⟩
      rw [h2.length, List.take_length] at hD3
      refine ⟨D, _, rfl, .inr (SqL.of hD3), ?_, fun c H4 s4 nc hc => ?_⟩
      · rw [List.append_nil, List.length_cons, List.length_map]
        exact Nat.le_trans (by omega : _ ≤ 1001) (by decide)
      · refine kq H4 c (((s1.trans s2).trans s3).trans s4) ?_
        rw [List.append_nil] at hc
        exact hc
end
end K12

namespace K12
open PySem PySem.Spec PyProof.Rows L2 RZ HX TR RP
/-! ### trees: the kids by rank, the first way, what nodes part, other numbers -/
def kidn (S : List (Int × Pg)) (n : Int) : List Int := match lkp S n with
  | some (.node _ kids) => kids
  | _ => []
theorem kidn_node {S : List (Int × Pg)} {n : Int} {ks kids : List Int} (h : lkp S n = some (.node ks kids)) : kidn S n = kids := by
  unfold kidn
  rw [h]
theorem kidn_leaf {S : List (Int × Pg)} {n : Int} {ps : List (Int × Int)} {nx : Int} (h : lkp S n = some (.leaf ps nx)) : kidn S n = [] := by
  unfold kidn
  rw [h]
theorem flat_nil {α β : Type} {f : α → List β} : ∀ {l : List α}, (∀ x ∈ l, f x = []) → l.flatMap f = []
  | [], _ => rfl
  | x :: l, h => by
    rw [List.flatMap_cons, h x (List.mem_cons_self ..), flat_nil fun y hy => h y (List.mem_cons_of_mem _ hy)]
    rfl
theorem kid_one {S : List (Int × Pg)} {m : Nat} : ∀ {F : List (Tr (m + 1))}, (∀ t ∈ F, Laid S (m + 1) t) → (F.map (num (m + 1))).flatMap (kidn S) = (kidsF F).map (num m)
  | [], _ => rfl
  | t :: F, h => by
    have e : kidsF (t :: F) = t.kids ++ kidsF F := List.flatMap_cons ..
    rw [List.map_cons, List.flatMap_cons, kid_one fun y hy => h y (List.mem_cons_of_mem _ hy), kidn_node (h t (List.mem_cons_self ..)).1, e, List.map_append]
theorem kid_rows {S : List (Int × Pg)} : ∀ {m : Nat} {F : List (Tr m)}, (∀ t ∈ F, Laid S m t) → ((rows m F).flatten).flatMap (kidn S) = (rows m F).flatten.drop F.length
  | 0, F, h => by
    have e : (rows 0 F).flatten = F.map (num 0) := by
      show ([F.map (num 0)] : List (List Int)).flatten = _
      simp
    rw [e, List.drop_of_length_le (by rw [List.length_map]; exact Nat.le_refl _)]
    refine flat_nil fun n hn => ?_
    obtain ⟨t, ht, rfl⟩ := List.mem_map.mp hn
    obtain ⟨nx, z⟩ := h t ht
    exact kidn_leaf z
  | m + 1, F, h => by
    have e : (rows (m + 1) F).flatten = F.map (num (m + 1)) ++ (rows m (kidsF F)).flatten := by
      show (F.map (num (m + 1)) :: rows m (kidsF F)).flatten = _
      rw [List.flatten_cons]
    have hk : ∀ t ∈ kidsF F, Laid S m t := fun t ht => by
      obtain ⟨u, hu, hk⟩ := List.mem_flatMap.mp ht
      exact (h u hu).2 t hk
    obtain ⟨r, er⟩ := rows_cons (kidsF F)
    have eR : (rows m (kidsF F)).flatten = (kidsF F).map (num m) ++ r.flatten := by rw [er, List.flatten_cons]
    have ih := kid_rows hk
    rw [e, List.flatMap_append, kid_one h, ih, eR]
    rw [List.drop_left' (by rw [List.length_map]), List.drop_left' (by rw [List.length_map])]
/-- the way to the first leaf -/
def fstP : (l : Nat) → Tr l → List Int
  | 0, t => [num 0 t]
  | l + 1, t => num (l + 1) t :: (match t.kids with
    | k :: _ => fstP l k
    | [] => [])
theorem fst_ok {S : List (Int × Pg)} : ∀ {l : Nat} {t : Tr l}, Laid S l t → KeyOk l t → (fstP l t).length = l + 1 ∧ (fstP l t)[0]? = some (num l t) ∧ (∀ (i : Nat) (n : Int), i < l → (fstP l t)[i]? = some n → ∃ ks k0 kids, lkp S n = some (.node ks (k0 :: kids)) ∧ (fstP l t)[i + 1]? = some k0) ∧ ∃ n, (fstP l t)[l]? = some n ∧ (lvs l t)[0]? = some n
  | 0, t, _, _ => ⟨rfl, rfl, fun i n h => (by omega), num 0 t, rfl, rfl⟩
  | l + 1, t, ⟨h1, h2⟩, ⟨_, _, k3, k4⟩ => by
    obtain ⟨k, ks, ek⟩ : ∃ k ks, t.kids = k :: ks := by
      match h : t.kids, k3 with
      | [], z => cases z
      | k :: ks, _ => exact ⟨k, ks, rfl⟩
    have hk : k ∈ t.kids := by rw [ek]; exact List.mem_cons_self ..
    obtain ⟨z1, z2, z3, n, z4, z5⟩ := fst_ok (h2 k hk) (k4 k hk)
    have ef : fstP (l + 1) t = num (l + 1) t :: fstP l k := by
      show num (l + 1) t :: (match t.kids with | k :: _ => fstP l k | [] => []) = _
      rw [ek]
    rw [ef]
    refine ⟨by rw [List.length_cons, z1], rfl, fun i m hi hm => ?_, n, by rw [List.getElem?_cons_succ]; exact z4, ?_⟩
    · cases i with
      | zero =>
        cases hm
        rw [ek, List.map_cons] at h1
        exact ⟨_, _, _, h1, by rw [List.getElem?_cons_succ]; exact z2⟩
      | succ i =>
        rw [List.getElem?_cons_succ] at hm
        obtain ⟨a, b, c, y1, y2⟩ := z3 i m (by omega) hm
        exact ⟨a, b, c, y1, by rw [List.getElem?_cons_succ]; exact y2⟩
    · show (t.kids.flatMap (lvs l))[0]? = some n
      rw [ek, List.flatMap_cons, List.getElem?_append_left (by
        have := (List.getElem?_eq_some_iff.mp z5).1
        exact this)]
      exact z5
/-- no leaf is empty -/
def NE : (l : Nat) → Tr l → Prop
  | 0, t => t.ps ≠ []
  | l + 1, t => ∀ k ∈ t.kids, NE l k
theorem ne_of {room : Nat} (r3 : 3 ≤ room) : ∀ {l : Nat} {t : Tr l}, WfSh room l false (shp l t) → NE l t
  | 0, t, ⟨h, _⟩ => fun e => by
    have e0 : (shp 0 t).n = t.ps.length := rfl
    have e1 : loS room 0 false = (room + 1) / 2 := rfl
    rw [e0, e, e1] at h
    simp only [List.length_nil] at h
    omega
  | l + 1, t, ⟨_, _, h⟩ => fun k hk => ne_of r3 (h (shp l k) (List.mem_map_of_mem hk))
theorem kbs_at {α : Type} {R : α → Int → Int → Prop} {hi : Int} : ∀ {kids : List α} {ks : List Int} {lo : Int}, KBs R lo ks kids hi → ∀ (j : Nat) (key : Int), ks[j]? = some key → ∃ a b, kids[j]? = some a ∧ kids[j + 1]? = some b ∧ (∃ lo', R a lo' key) ∧ ∃ hi', R b key hi'
  | [], ks, _, h => by cases ks <;> exact h.elim
  | [k], [], _, h => fun j key hj => by simp at hj
  | _ :: _ :: _, [], _, h => h.elim
  | [k], b :: ks, _, h => by
    have z := KBs.len h
    simp only [List.length_cons, List.length_nil] at z
    omega
  | k :: k2 :: kids, b :: ks, lo, h => fun j key hj => by
    cases j with
    | zero =>
      cases hj
      refine ⟨k, k2, rfl, rfl, ⟨_, h.1⟩, ?_⟩
      cases ks with
      | nil =>
        cases kids with
        | nil => exact ⟨_, h.2⟩
        | cons _ _ => exact h.2.elim
      | cons c ks => exact ⟨_, h.2.1⟩
    | succ j =>
      rw [List.getElem?_cons_succ] at hj
      obtain ⟨a, b, z1, z2, z3, z4⟩ := kbs_at h.2 j key hj
      exact ⟨a, b, by rw [List.getElem?_cons_succ]; exact z1, by rw [List.getElem?_cons_succ]; exact z2, z3, z4⟩
theorem kbs_all {l : Nat} (ih : ∀ {t : Tr l} {lo hi : Int}, NE l t → KeyB l t lo hi → prs l t ≠ [] ∧ ∀ q ∈ prs l t, lo ≤ q.1 ∧ q.1 < hi) : ∀ {kids : List (Tr l)} {ks : List Int} {lo hi : Int}, (∀ k ∈ kids, NE l k) → KBs (KeyB l) lo ks kids hi → kids.flatMap (prs l) ≠ [] ∧ ∀ q ∈ kids.flatMap (prs l), lo ≤ q.1 ∧ q.1 < hi
  | [], ks, _, _, _, h => by cases ks <;> exact h.elim
  | [k], [], _, _, n, h => by
    rw [List.flatMap_cons, List.flatMap_nil, List.append_nil]
    exact ih (n k (List.mem_cons_self ..)) h
  | _ :: _ :: _, [], _, _, _, h => h.elim
  | k :: kids, b :: ks, lo, hi, n, h => by
    obtain ⟨y1, y2⟩ := ih (n k (List.mem_cons_self ..)) h.1
    obtain ⟨z1, z2⟩ := kbs_all ih (fun x hx => n x (List.mem_cons_of_mem _ hx)) h.2
    rw [List.flatMap_cons]
    refine ⟨fun e => y1 (List.append_eq_nil_iff.mp e).1, fun q hq => ?_⟩
    obtain ⟨q0, hq0⟩ := List.exists_mem_of_ne_nil _ y1
    obtain ⟨q1, hq1⟩ := List.exists_mem_of_ne_nil _ z1
    have a0 := y2 q0 hq0
    have a1 := z2 q1 hq1
    rcases List.mem_append.mp hq with hq | hq
    · have := y2 q hq
      omega
    · have := z2 q hq
      omega
theorem keyb_all : ∀ {l : Nat} {t : Tr l} {lo hi : Int}, NE l t → KeyB l t lo hi → prs l t ≠ [] ∧ ∀ q ∈ prs l t, lo ≤ q.1 ∧ q.1 < hi
  | 0, _, _, _, n, h => ⟨n, h⟩
  | _ + 1, _, _, _, n, h => kbs_all (fun n h => keyb_all n h) n h
/-- the node of a number, with what is beneath it -/
structure NodeAt (S : List (Int × Pg)) (ks kd : List Int) : Prop where
  at_ : ∃ (m : Nat) (kids : List (Tr m)) (lo hi : Int), kd = kids.map (num m) ∧ (∀ k ∈ kids, Laid S m k) ∧ (∀ k ∈ kids, NE m k) ∧ KBs (KeyB m) lo ks kids hi ∧ m ≤ 8 ∧ kids.length ≤ 1000 ∧ ∀ k ∈ kids, (prs m k).length ≤ 8000
theorem kbs_mem {α : Type} {R : α → Int → Int → Prop} {hi : Int} : ∀ {kids : List α} {ks : List Int} {lo : Int}, KBs R lo ks kids hi → ∀ k ∈ kids, ∃ a b, R k a b
  | [], ks, _, h => by cases ks <;> exact h.elim
  | [k], [], lo, h => fun x hx => by
    obtain rfl := List.mem_singleton.mp hx
    exact ⟨_, _, h⟩
  | _ :: _ :: _, [], _, h => h.elim
  | k :: kids, b :: ks, lo, h => fun x hx => by
    rcases List.mem_cons.mp hx with rfl | hx
    · exact ⟨_, _, h.1⟩
    · exact kbs_mem h.2 x hx
theorem node_sub {S : List (Int × Pg)} {n : Int} {ks kd : List Int} (e : lkp S n = some (.node ks kd)) : ∀ {l : Nat} {t : Tr l} {lo hi : Int}, Laid S l t → (l = 0 ∨ NE l t) → KeyB l t lo hi → (nums l t).length ≤ 1000 → (prs l t).length ≤ 8000 → l ≤ 8 → n ∈ nums l t → NodeAt S ks kd
  | 0, t, lo, hi, ⟨nx, h⟩, _, _, _, _, _, hn => by
    obtain rfl := List.mem_singleton.mp hn
    rw [h] at e
    cases e
  | l + 1, t, lo, hi, ⟨h1, h2⟩, ne, kb, few, fp, hl, hn => by
    replace ne : NE (l + 1) t := ne.elim (fun e => by omega) id
    have fk : ∀ k ∈ t.kids, (nums l k).length ≤ 1000 ∧ (prs l k).length ≤ 8000 := fun k hk => by
      obtain ⟨a, b, eab⟩ := List.append_of_mem hk
      have c1 : (nums (l + 1) t) = num (l + 1) t :: t.kids.flatMap (nums l) := rfl
      have c2 : (prs (l + 1) t) = t.kids.flatMap (prs l) := rfl
      rw [c1, eab, List.flatMap_append, List.flatMap_cons] at few
      rw [c2, eab, List.flatMap_append, List.flatMap_cons] at fp
      simp only [List.length_cons, List.length_append] at few fp
      omega
    rcases List.mem_cons.mp hn with rfl | hn
    · rw [h1] at e
      cases e
      refine ⟨l, t.kids, lo, hi, rfl, h2, ne, kb, by omega, ?_, fun k hk => (fk k hk).2⟩
      have c : t.kids.length ≤ (t.kids.flatMap (nums l)).length := by
        have pos : ∀ k : Tr l, 1 ≤ (nums l k).length := fun k => by cases l <;> exact Nat.succ_pos _
        have z : ∀ L : List (Tr l), L.length ≤ (L.flatMap (nums l)).length := fun L => by
          induction L with
          | nil => exact Nat.zero_le _
          | cons k L ih =>
            rw [List.flatMap_cons, List.length_append, List.length_cons]
            have := pos k
            omega
        exact z _
      have c1 : (nums (l + 1) t).length = 1 + (t.kids.flatMap (nums l)).length := by
        show (num (l + 1) t :: t.kids.flatMap (nums l)).length = _
        rw [List.length_cons, Nat.add_comm]
      omega
    · obtain ⟨k, hk, hn⟩ := List.mem_flatMap.mp hn
      obtain ⟨a, b, hab⟩ := kbs_mem kb k hk
      exact node_sub e (h2 k hk) (.inr (ne k hk)) hab (fk k hk).1 (fk k hk).2 (by omega) hn
/-! other numbers -/
def renT (f : Int → Int) : (l : Nat) → Tr l → Tr l
  | 0, t => lfT (f (num 0 t)) t.ps
  | l + 1, t => ndT (f (num (l + 1) t)) t.keys (t.kids.map (renT f l))
def renPg (f : Int → Int) : Pg → Pg
  | .leaf ps nx => .leaf ps (if nx = 0 then 0 else f nx)
  | .node ks kids => .node ks (kids.map f)
section
variable {f : Int → Int}
theorem ren_num : ∀ {l : Nat} {t : Tr l}, num l (renT f l t) = f (num l t)
  | 0, _ => rfl
  | _ + 1, _ => rfl
theorem ren_kids {l : Nat} {t : Tr (l + 1)} : (renT f (l + 1) t).kids = t.kids.map (renT f l) := rfl
theorem ren_fm {α : Type} {l : Nat} (g h : Tr l → List α) (e : ∀ k, g (renT f l k) = h k) (L : List (Tr l)) : (L.map (renT f l)).flatMap g = L.flatMap h := by
  induction L with
  | nil => rfl
  | cons k L ih => rw [List.map_cons, List.flatMap_cons, List.flatMap_cons, e, ih]
theorem fm_map {α β γ : Type} (g : α → List β) (h : β → γ) (L : List α) : (L.flatMap g).map h = L.flatMap fun x => (g x).map h := by
  induction L with
  | nil => rfl
  | cons k L ih => rw [List.flatMap_cons, List.flatMap_cons, List.map_append, ih]
theorem ren_nums : ∀ {l : Nat} {t : Tr l}, nums l (renT f l t) = (nums l t).map f
  | 0, _ => rfl
  | l + 1, t => by
    show f (num (l + 1) t) :: (t.kids.map (renT f l)).flatMap (nums l) = (num (l + 1) t :: t.kids.flatMap (nums l)).map f
    rw [List.map_cons, ren_fm (nums l) (fun k => (nums l k).map f) fun k => ren_nums, fm_map]
theorem ren_prs : ∀ {l : Nat} {t : Tr l}, prs l (renT f l t) = prs l t
  | 0, _ => rfl
  | l + 1, t => ren_fm (prs l) (prs l) (fun k => ren_prs) t.kids
theorem ren_shp : ∀ {l : Nat} {t : Tr l}, shp l (renT f l t) = shp l t
  | 0, _ => rfl
  | l + 1, t => by
    show (t.kids.map (renT f l)).map (shp l) = t.kids.map (shp l)
    rw [List.map_map]
    exact List.map_congr_left fun k _ => ren_shp
theorem ren_lvs : ∀ {l : Nat} {t : Tr l}, lvs l (renT f l t) = (lvs l t).map f
  | 0, _ => rfl
  | l + 1, t => by
    show (t.kids.map (renT f l)).flatMap (lvs l) = (t.kids.flatMap (lvs l)).map f
    rw [ren_fm (lvs l) (fun k => (lvs l k).map f) fun k => ren_lvs, fm_map]
theorem ren_kbs {l : Nat} (ih : ∀ {t : Tr l} {lo hi : Int}, KeyB l t lo hi → KeyB l (renT f l t) lo hi) {hi : Int} : ∀ {kids : List (Tr l)} {ks : List Int} {lo : Int}, KBs (KeyB l) lo ks kids hi → KBs (KeyB l) lo ks (kids.map (renT f l)) hi
  | [], ks, _, h => by cases ks <;> exact h.elim
  | [k], [], _, h => ih h
  | _ :: _ :: _, [], _, h => h.elim
  | k :: kids, b :: ks, _, h => ⟨ih h.1, ren_kbs ih h.2⟩
theorem ren_keyB : ∀ {l : Nat} {t : Tr l} {lo hi : Int}, KeyB l t lo hi → KeyB l (renT f l t) lo hi
  | 0, _, _, _, h => h
  | _ + 1, _, _, _, h => ren_kbs (fun h => ren_keyB h) h
theorem ren_keyOk : ∀ {l : Nat} {t : Tr l}, KeyOk l t → KeyOk l (renT f l t)
  | 0, _, _ => trivial
  | l + 1, t, ⟨h1, h2, h3, h4⟩ => ⟨h1, h2, by rw [ren_kids, List.length_map]; exact h3, fun k hk => by
    obtain ⟨u, hu, rfl⟩ := List.mem_map.mp hk
    exact ren_keyOk (h4 u hu)⟩
theorem ren_laid {S S' : List (Int × Pg)} (e : ∀ n g, lkp S n = some g → lkp S' (f n) = some (renPg f g)) : ∀ {l : Nat} {t : Tr l}, Laid S l t → Laid S' l (renT f l t)
  | 0, t, ⟨nx, h⟩ => ⟨_, e _ _ h⟩
  | l + 1, t, ⟨h1, h2⟩ => by
    refine ⟨(e _ _ h1).trans ?_, fun k hk => ?_⟩
    · show some (Pg.node t.keys ((t.kids.map (num l)).map f)) = some (.node t.keys ((t.kids.map (renT f l)).map (num l)))
      rw [List.map_map, List.map_map]
      congr 2
      exact List.map_congr_left fun k _ => ren_num.symm
    · obtain ⟨u, hu, rfl⟩ := List.mem_map.mp hk
      exact ren_laid e (h2 u hu)
theorem ren_rows : ∀ {m : Nat} {F : List (Tr m)}, rows m (F.map (renT f m)) = (rows m F).map (List.map f)
  | 0, F => by
    show [(F.map (renT f 0)).map (num 0)] = [(F.map (num 0)).map f]
    rw [List.map_map, List.map_map]
    rfl
  | m + 1, F => by
    show (F.map (renT f (m + 1))).map (num (m + 1)) :: rows m (kidsF (F.map (renT f (m + 1)))) = (F.map (num (m + 1))).map f :: (rows m (kidsF F)).map (List.map f)
    have e : kidsF (F.map (renT f (m + 1))) = (kidsF F).map (renT f m) := by
      unfold kidsF
      rw [fm_map]
      induction F with
      | nil => rfl
      | cons k F ih => rw [List.map_cons, List.flatMap_cons, List.flatMap_cons, ih]; rfl
    rw [e, ren_rows, List.map_map, List.map_map]
    rfl
theorem ren_tree {room l : Nat} {t : Tr l} {S S' : List (Int × Pg)} (h : TR.Tree room l t S) (inj : ∀ a ∈ nums l t, ∀ b ∈ nums l t, f a = f b → a = b) (rg : ∀ a ∈ nums l t, 1 ≤ f a ∧ f a ≤ 1000000) (p : S'.Perm (S.map fun q => (f q.1, renPg f q.2))) (srt : S'.Pairwise fun a b => a.1 < b.1) : TR.Tree room l (renT f l t) S' := by
  have nd : ((nums l t).map f).Nodup := by
    rw [List.nodup_iff_pairwise_ne, List.pairwise_map]
    exact List.Pairwise.imp_of_mem (fun {a b} ha hb ne e => ne (inj a ha b hb e)) (List.nodup_iff_pairwise_ne.mp h.nodup)
  have pk : (S'.map (·.1)).Perm ((nums l t).map f) := by
    have z := p.map (·.1)
    rw [List.map_map] at z
    have z2 := h.perm.map f
    rw [List.map_map] at z2
    exact z.trans z2
  have lk : ∀ n g, lkp S n = some g → lkp S' (f n) = some (renPg f g) := fun n g e => by
    refine mem_lkp (pk.nodup_iff.mpr nd) (p.mem_iff.mpr ?_)
    exact List.mem_map.mpr ⟨(n, g), lkp_mem e, rfl⟩
  refine ⟨h.r3, h.r8, by rw [ren_shp]; exact h.wf, by rw [ren_nums]; exact nd, ?_, by rw [ren_nums]; exact pk, srt, ren_laid lk h.laid, ?_, ren_keyB h.keyB, ren_keyOk h.keyOk, by rw [ren_prs]; exact h.rising, by rw [ren_prs]; exact h.good, by rw [ren_nums, List.length_map]; exact h.few⟩
  · rw [ren_nums]
    intro k hk
    obtain ⟨a, ha, rfl⟩ := List.mem_map.mp hk
    exact rg a ha
  · rw [ren_lvs, List.length_map]
    intro j n hj hn
    rw [List.getElem?_map] at hn
    cases c : (lvs l t)[j]? with
    | none => rw [c] at hn; cases hn
    | some m =>
      rw [c] at hn
      cases hn
      obtain ⟨ps, z⟩ := h.next j m hj c
      refine ⟨ps, (lk _ _ z).trans ?_⟩
      show some (Pg.leaf ps _) = some (.leaf ps _)
      congr 2
      rw [List.getElem?_map]
      cases d : (lvs l t)[j + 1]? with
      | none => rfl
      | some v =>
        have hv : v ∈ nums l t := lvs_sub.mem (List.mem_of_getElem? d)
        have := (h.range v hv).1
        show (if v = 0 then 0 else f v) = f v
        rw [if_neg (by omega)]
end
end K12

namespace K12
open PySem PySem.Spec PyProof.Rows L2 RZ HX TR RP
/-! the ways of a tree from left to right, and the keys between them -/
def paths : (l : Nat) → Tr l → List (List Int)
  | 0, t => [[num 0 t]]
  | l + 1, t => (t.kids.flatMap (paths l)).map fun p => num (l + 1) t :: p
def joinK : List Int → List (List Int) → List Int
  | _, [] => []
  | [], b :: _ => b
  | k :: ks, b :: bs => b ++ k :: joinK ks bs
def bks : (l : Nat) → Tr l → List Int
  | 0, _ => []
  | l + 1, t => joinK t.keys (t.kids.map (bks l))
def cntLe (k : Int) (bs : List Int) : Nat := (bs.filter fun b => decide (b ≤ k)).length
structure Wys (l : Nat) (t : Tr l) (lo hi : Int) : Prop where
  rise : (bks l t).Pairwise (· < ·)
  bound : ∀ b ∈ bks l t, lo < b ∧ b < hi
  len : (paths l t).length = (bks l t).length + 1
  way : ∀ k, (paths l t)[cntLe k (bks l t)]? = some (wayOf l t k)
theorem cnt_all {k : Int} : ∀ {bs : List Int}, (∀ b ∈ bs, b ≤ k) → cntLe k bs = bs.length
  | [], _ => rfl
  | b :: bs, h => by
    unfold cntLe
    rw [List.filter_cons_of_pos (p := fun b => decide (b ≤ k)) (decide_eq_true (h b (List.mem_cons_self ..))), List.length_cons, List.length_cons]
    have := cnt_all (k := k) (bs := bs) fun x hx => h x (List.mem_cons_of_mem _ hx)
    unfold cntLe at this
    rw [this]
theorem cnt_none {k : Int} : ∀ {bs : List Int}, (∀ b ∈ bs, k < b) → cntLe k bs = 0
  | [], _ => rfl
  | b :: bs, h => by
    unfold cntLe
    rw [List.filter_cons_of_neg (by have := h b (List.mem_cons_self ..); simp; omega)]
    have := cnt_none (k := k) (bs := bs) fun x hx => h x (List.mem_cons_of_mem _ hx)
    unfold cntLe at this
    exact this
theorem cnt_app {k : Int} {a b : List Int} : cntLe k (a ++ b) = cntLe k a + cntLe k b := by
  unfold cntLe
  rw [List.filter_append, List.length_append]
theorem cnt_le {k : Int} {a : List Int} : cntLe k a ≤ a.length := List.length_filter_le _ _
/-- a row of trees with keys between -/
structure WysF (l : Nat) (ks : List Int) (kids : List (Tr l)) (lo hi : Int) : Prop where
  lt : lo < hi
  rise : (joinK ks (kids.map (bks l))).Pairwise (· < ·)
  bound : ∀ b ∈ joinK ks (kids.map (bks l)), lo < b ∧ b < hi
  ksb : ∀ k ∈ ks, lo < k
  len : (kids.flatMap (paths l)).length = (joinK ks (kids.map (bks l))).length + 1
  way : ∀ k, ∃ u, kids[placeOf ks k]? = some u ∧ (kids.flatMap (paths l))[cntLe k (joinK ks (kids.map (bks l)))]? = some (wayOf l u k)
theorem wysF {l : Nat} (ih : ∀ {t : Tr l} {lo hi : Int}, NE l t → KeyOk l t → KeyB l t lo hi → Wys l t lo hi) {hi : Int} : ∀ {kids : List (Tr l)} {ks : List Int} {lo : Int}, (∀ k ∈ kids, NE l k) → (∀ k ∈ kids, KeyOk l k) → ks.Pairwise (· < ·) → KBs (KeyB l) lo ks kids hi → WysF l ks kids lo hi
  | [], ks, _, _, _, _, h => by cases ks <;> exact h.elim
  | [u], [], lo, n, o, _, h => by
    have w := ih (n u (List.mem_cons_self ..)) (o u (List.mem_cons_self ..)) h
    obtain ⟨p1, p2⟩ := keyb_all (n u (List.mem_cons_self ..)) h
    obtain ⟨q, hq⟩ := List.exists_mem_of_ne_nil _ p1
    have := p2 q hq
    have e1 : joinK [] ([u].map (bks l)) = bks l u := rfl
    have e2 : [u].flatMap (paths l) = paths l u := by rw [List.flatMap_cons, List.flatMap_nil, List.append_nil]
    refine ⟨by omega, by rw [e1]; exact w.rise, by rw [e1]; exact w.bound, nofun, by rw [e1, e2]; exact w.len, fun k => ⟨u, rfl, by rw [e1, e2]; exact w.way k⟩⟩
  | _ :: _ :: _, [], _, _, _, _, h => h.elim
  | u :: kids, a :: ks, lo, n, o, srt, h => by
    have nu := n u (List.mem_cons_self ..)
    have w := ih nu (o u (List.mem_cons_self ..)) h.1
    obtain ⟨p1, p2⟩ := keyb_all nu h.1
    obtain ⟨q, hq⟩ := List.exists_mem_of_ne_nil _ p1
    have q1 := p2 q hq
    obtain ⟨s1, s2⟩ := List.pairwise_cons.mp srt
    have f := wysF ih (fun x hx => n x (List.mem_cons_of_mem _ hx)) (fun x hx => o x (List.mem_cons_of_mem _ hx)) s2 h.2
    have e1 : joinK (a :: ks) ((u :: kids).map (bks l)) = bks l u ++ a :: joinK ks (kids.map (bks l)) := rfl
    have e2 : (u :: kids).flatMap (paths l) = paths l u ++ kids.flatMap (paths l) := List.flatMap_cons ..
    have flt := f.lt
    refine ⟨by omega, ?_, ?_, ?_, ?_, fun k => ?_⟩
    · rw [e1]
      refine List.pairwise_append.mpr ⟨w.rise, List.pairwise_cons.mpr ⟨fun b hb => (f.bound b hb).1, f.rise⟩, fun x hx y hy => ?_⟩
      have z := (w.bound x hx).2
      rcases List.mem_cons.mp hy with rfl | hy
      · exact z
      · have := (f.bound y hy).1
        omega
    · rw [e1]
      intro b hb
      rcases List.mem_append.mp hb with hb | hb
      · have := w.bound b hb
        omega
      · rcases List.mem_cons.mp hb with rfl | hb
        · omega
        · have := f.bound b hb
          omega
    · intro x hx
      rcases List.mem_cons.mp hx with rfl | hx
      · omega
      · have := s1 x hx
        omega
    · rw [e1, e2, List.length_append, List.length_append, List.length_cons, w.len, f.len]
      omega
    · have e3 : cntLe k (bks l u ++ a :: joinK ks (kids.map (bks l))) = cntLe k (bks l u) + cntLe k (a :: joinK ks (kids.map (bks l))) := cnt_app
      rw [e1, e2, e3]
      by_cases c : a ≤ k
      · have z1 : cntLe k (bks l u) = (bks l u).length := cnt_all fun b hb => by have := (w.bound b hb).2; omega
        have z2 : cntLe k (a :: joinK ks (kids.map (bks l))) = cntLe k (joinK ks (kids.map (bks l))) + 1 := by
          unfold cntLe
          rw [List.filter_cons_of_pos (p := fun b => decide (b ≤ k)) (decide_eq_true c), List.length_cons]
        have z3 : placeOf (a :: ks) k = placeOf ks k + 1 := by
          unfold placeOf
          rw [List.filter_cons_of_pos (p := fun b => decide (b ≤ k)) (decide_eq_true c), List.length_cons]
        obtain ⟨v, hv1, hv2⟩ := f.way k
        refine ⟨v, by rw [z3, List.getElem?_cons_succ]; exact hv1, ?_⟩
        rw [z1, z2, List.getElem?_append_right (by rw [w.len]; omega), w.len]
        rw [show (bks l u).length + (cntLe k (joinK ks (kids.map (bks l))) + 1) - ((bks l u).length + 1) = cntLe k (joinK ks (kids.map (bks l))) by omega]
        exact hv2
      · have z2 : cntLe k (a :: joinK ks (kids.map (bks l))) = 0 := cnt_none fun b hb => by
          rcases List.mem_cons.mp hb with rfl | hb
          · omega
          · have := (f.bound b hb).1
            omega
        have z3 : placeOf (a :: ks) k = 0 := cnt_none (bs := a :: ks) fun b hb => by
          rcases List.mem_cons.mp hb with rfl | hb
          · omega
          · have := s1 b hb
            omega
        refine ⟨u, by rw [z3]; rfl, ?_⟩
        rw [z2, Nat.add_zero, List.getElem?_append_left (by rw [w.len]; have := cnt_le (k := k) (a := bks l u); omega)]
        exact w.way k
theorem wys : ∀ {l : Nat} {t : Tr l} {lo hi : Int}, NE l t → KeyOk l t → KeyB l t lo hi → Wys l t lo hi
  | 0, t, lo, hi, _, _, _ => ⟨.nil, nofun, rfl, fun k => rfl⟩
  | l + 1, t, lo, hi, n, ⟨k1, _, _, k4⟩, h => by
    have f := wysF (fun n o h => wys n o h) n k4 k1 h
    have e1 : bks (l + 1) t = joinK t.keys (t.kids.map (bks l)) := rfl
    have e2 : paths (l + 1) t = (t.kids.flatMap (paths l)).map fun p => num (l + 1) t :: p := rfl
    refine ⟨f.rise, f.bound, by rw [e1, e2, List.length_map]; exact f.len, fun k => ?_⟩
    obtain ⟨u, hu, hw⟩ := f.way k
    rw [e1, e2, List.getElem?_map, hw]
    show some (num (l + 1) t :: wayOf l u k) = some (num (l + 1) t :: (match t.kids[placeOf t.keys k]? with | some u => wayOf l u k | none => []))
    rw [hu]
end K12

namespace K12
open PySem PySem.Spec PyProof.Rows L2 RZ HX TR RP EQT
/-! ways side by side: where they part -/
def FC (S : List (Int × Pg)) : List Int → Prop
  | x :: y :: r => (∃ ks kd, lkp S x = some (.node ks (y :: kd))) ∧ FC S (y :: r)
  | _ => True
def LC (S : List (Int × Pg)) : List Int → Prop
  | x :: y :: r => (∃ ks kd, lkp S x = some (.node ks kd) ∧ kd.getLast? = some y) ∧ LC S (y :: r)
  | _ => True
inductive Adj (S : List (Int × Pg)) (key : Int) : List Int → List Int → Prop
  | here {n a b : Int} {ks kd : List Int} {c : Nat} {p q : List Int} : lkp S n = some (.node ks kd) → ks[c]? = some key → kd[c]? = some a → kd[c + 1]? = some b → LC S (a :: p) → FC S (b :: q) → p.length = q.length → Adj S key (n :: a :: p) (n :: b :: q)
  | next {n : Int} {p q : List Int} : Adj S key p q → Adj S key (n :: p) (n :: q)
structure PsOk (S : List (Int × Pg)) (l : Nat) (t : Tr l) : Prop where
  heads : ∀ p ∈ paths l t, p.length = l + 1 ∧ ∃ r, p = num l t :: r
  first : ∃ p r, paths l t = p :: r ∧ FC S p
  last : ∃ p, (paths l t).getLast? = some p ∧ LC S p
  len : (paths l t).length = (bks l t).length + 1
  nb : ∀ (i : Nat) (key : Int), (bks l t)[i]? = some key → ∃ p q, (paths l t)[i]? = some p ∧ (paths l t)[i + 1]? = some q ∧ Adj S key p q
def Nbr (S : List (Int × Pg)) (l : Nat) (ks : List Int) (us : List (Tr l)) (key : Int) (p q : List Int) : Prop := Adj S key p q ∨ ∃ (c : Nat) (a b : Tr l), ks[c]? = some key ∧ us[c]? = some a ∧ us[c + 1]? = some b ∧ (∃ r, p = num l a :: r) ∧ (∃ r, q = num l b :: r) ∧ LC S p ∧ FC S q ∧ p.length = q.length
structure PsF (S : List (Int × Pg)) (l : Nat) (ks : List Int) (us : List (Tr l)) : Prop where
  len : (us.flatMap (paths l)).length = (joinK ks (us.map (bks l))).length + 1
  first : ∃ u p r, us[0]? = some u ∧ us.flatMap (paths l) = p :: r ∧ (∃ r', p = num l u :: r') ∧ p.length = l + 1 ∧ FC S p
  last : ∃ u p, us.getLast? = some u ∧ (us.flatMap (paths l)).getLast? = some p ∧ (∃ r, p = num l u :: r) ∧ LC S p
  nb : ∀ (i : Nat) (key : Int), (joinK ks (us.map (bks l)))[i]? = some key → ∃ p q, (us.flatMap (paths l))[i]? = some p ∧ (us.flatMap (paths l))[i + 1]? = some q ∧ Nbr S l ks us key p q
theorem psF {S : List (Int × Pg)} {l : Nat} : ∀ {us : List (Tr l)} {ks : List Int}, (∀ u ∈ us, PsOk S l u) → ks.length + 1 = us.length → PsF S l ks us
  | [], ks, _, h => by cases h
  | [u], [], o, _ => by
    have w := o u (List.mem_cons_self ..)
    have e1 : joinK [] ([u].map (bks l)) = bks l u := rfl
    have e2 : [u].flatMap (paths l) = paths l u := by rw [List.flatMap_cons, List.flatMap_nil, List.append_nil]
    obtain ⟨p, r, z1, z2⟩ := w.first
    obtain ⟨pl, y1, y2⟩ := w.last
    obtain ⟨h1, h2⟩ := w.heads p (by rw [z1]; exact List.mem_cons_self ..)
    obtain ⟨_, h4⟩ := w.heads pl (List.mem_of_getLast? y1)
    refine ⟨by rw [e1, e2]; exact w.len, ⟨u, p, r, rfl, by rw [e2]; exact z1, h2, h1, z2⟩, ⟨u, pl, rfl, by rw [e2]; exact y1, h4, y2⟩, fun i key hk => ?_⟩
    rw [e1] at hk
    rw [e2]
    obtain ⟨p, q, a, b, c⟩ := w.nb i key hk
    exact ⟨p, q, a, b, .inl c⟩
  | _ :: _ :: _, [], _, h => by simp at h
  | [u], _ :: _, _, h => by simp at h
  | u :: u2 :: us, a :: ks, o, h => by
    have w := o u (List.mem_cons_self ..)
    have f := psF (us := u2 :: us) (ks := ks) (fun x hx => o x (List.mem_cons_of_mem _ hx)) (by simp only [List.length_cons] at h ⊢; omega)
    have e1 : joinK (a :: ks) ((u :: u2 :: us).map (bks l)) = bks l u ++ a :: joinK ks ((u2 :: us).map (bks l)) := rfl
    have e2 : (u :: u2 :: us).flatMap (paths l) = paths l u ++ (u2 :: us).flatMap (paths l) := List.flatMap_cons ..
    obtain ⟨p, r, z1, z2⟩ := w.first
    obtain ⟨pl, y1, y2⟩ := w.last
    obtain ⟨h1, h2⟩ := w.heads p (by rw [z1]; exact List.mem_cons_self ..)
    obtain ⟨h3, h4⟩ := w.heads pl (List.mem_of_getLast? y1)
    obtain ⟨fu, fp, fr, f1, f2, f3, f4, f5⟩ := f.first
    obtain ⟨gu, gp, g1, g2, g3, g4⟩ := f.last
    have flen := f.len
    have fnb := f.nb
    generalize (u2 :: us).flatMap (paths l) = P at e2 f2 g2 flen fnb
    generalize joinK ks ((u2 :: us).map (bks l)) = B at e1 flen fnb
    have wl := w.len
    refine ⟨by rw [e1, e2, List.length_append, List.length_append, List.length_cons]; omega, ⟨u, p, r ++ P, rfl, by rw [e2, z1]; rfl, h2, h1, z2⟩, ⟨gu, gp, ?_, ?_, g3, g4⟩, fun i key hk => ?_⟩
    · rw [List.getLast?_cons, g1]
      rfl
    · rw [e2, List.getLast?_append, g2]
      rfl
    · rw [e1] at hk
      rw [e2]
      rcases Nat.lt_trichotomy i (bks l u).length with c | c | c
      · rw [List.getElem?_append_left c] at hk
        obtain ⟨x, y, a1, a2, a3⟩ := w.nb i key hk
        exact ⟨x, y, by rw [List.getElem?_append_left (by omega)]; exact a1, by rw [List.getElem?_append_left (by omega)]; exact a2, .inl a3⟩
      · subst c
        rw [List.getElem?_append_right (Nat.le_refl _), Nat.sub_self] at hk
        cases hk
        refine ⟨pl, fp, ?_, ?_, .inr ⟨0, u, fu, rfl, rfl, f1, h4, f3, y2, f5, by rw [h3, f4]⟩⟩
        · rw [List.getElem?_append_left (by omega)]
          rw [List.getLast?_eq_getElem?, wl, Nat.add_sub_cancel] at y1
          exact y1
        · rw [List.getElem?_append_right (by omega), wl, Nat.sub_self, f2]
          rfl
      · obtain ⟨j, rfl⟩ : ∃ j, i = (bks l u).length + 1 + j := ⟨i - ((bks l u).length + 1), by omega⟩
        rw [List.getElem?_append_right (by omega), show (bks l u).length + 1 + j - (bks l u).length = j + 1 by omega, List.getElem?_cons_succ] at hk
        obtain ⟨x, y, a1, a2, a3⟩ := fnb j key hk
        refine ⟨x, y, ?_, ?_, ?_⟩
        · rw [List.getElem?_append_right (by omega), show (bks l u).length + 1 + j - (paths l u).length = j by omega]
          exact a1
        · rw [List.getElem?_append_right (by omega), show (bks l u).length + 1 + j + 1 - (paths l u).length = j + 1 by omega]
          exact a2
        · rcases a3 with a3 | ⟨c, ua, ub, b1, b2, b3, b4⟩
          · exact .inl a3
          · exact .inr ⟨c + 1, ua, ub, by rw [List.getElem?_cons_succ]; exact b1, by rw [List.getElem?_cons_succ]; exact b2, by rw [List.getElem?_cons_succ]; exact b3, b4⟩
theorem psOk {S : List (Int × Pg)} : ∀ {l : Nat} {t : Tr l}, Laid S l t → KeyOk l t → PsOk S l t
  | 0, t, _, _ => ⟨fun p hp => by obtain rfl := List.mem_singleton.mp hp; exact ⟨rfl, [], rfl⟩, ⟨_, [], rfl, trivial⟩, ⟨_, rfl, trivial⟩, rfl, fun i key hk => by cases hk⟩
  | l + 1, t, ⟨h1, h2⟩, ⟨_, _, k3, k4⟩ => by
    have f := psF (S := S) (fun u hu => psOk (h2 u hu) (k4 u hu)) k3
    have e1 : bks (l + 1) t = joinK t.keys (t.kids.map (bks l)) := rfl
    have e2 : paths (l + 1) t = (t.kids.flatMap (paths l)).map fun p => num (l + 1) t :: p := rfl
    obtain ⟨fu, fp, fr, f1, f2, ⟨fr', f3⟩, f4, f5⟩ := f.first
    obtain ⟨gu, gp, g1, g2, ⟨gr, g3⟩, g4⟩ := f.last
    refine ⟨fun p hp => ?_, ⟨num (l + 1) t :: fp, fr.map fun p => num (l + 1) t :: p, by rw [e2, f2]; rfl, ?_⟩, ⟨num (l + 1) t :: gp, by rw [e2, List.getLast?_map, g2]; rfl, ?_⟩, by rw [e1, e2, List.length_map]; exact f.len, fun i key hk => ?_⟩
    · rw [e2] at hp
      obtain ⟨q, hq, rfl⟩ := List.mem_map.mp hp
      obtain ⟨u, hu, hq⟩ := List.mem_flatMap.mp hq
      exact ⟨by rw [List.length_cons, ((psOk (h2 u hu) (k4 u hu)).heads q hq).1], q, rfl⟩
    · subst f3
      obtain ⟨ks', e⟩ : ∃ r, t.kids = fu :: r := by
        cases c : t.kids with
        | nil => rw [c] at f1; cases f1
        | cons x r => rw [c] at f1; cases f1; exact ⟨r, rfl⟩
      rw [e, List.map_cons] at h1
      exact ⟨⟨_, _, h1⟩, f5⟩
    · subst g3
      exact ⟨⟨_, _, h1, by rw [List.getLast?_map, g1]; rfl⟩, g4⟩
    · obtain ⟨p, q, a1, a2, a3⟩ := f.nb i key (by rw [← e1]; exact hk)
      refine ⟨num (l + 1) t :: p, num (l + 1) t :: q, by rw [e2, List.getElem?_map, a1]; rfl, by rw [e2, List.getElem?_map, a2]; rfl, ?_⟩
      rcases a3 with a3 | ⟨c, ua, ub, b1, b2, b3, ⟨r1, rfl⟩, ⟨r2, rfl⟩, b6, b7, b8⟩
      · exact .next a3
      · exact .here h1 b1 (by rw [List.getElem?_map, b2]; rfl) (by rw [List.getElem?_map, b3]; rfl) b6 b7 (by simpa using b8)
/-! by places -/
structure AdjI (S : List (Int × Pg)) (key : Int) (p q : List Int) (at_ : Nat) : Prop where
  pos : 0 < at_
  lt : at_ < q.length
  plen : p.length = q.length
  same : ∀ j, j < at_ → p[j]? = q[j]?
  node : ∃ n ks kd c a b, q[at_ - 1]? = some n ∧ lkp S n = some (.node ks kd) ∧ ks[c]? = some key ∧ kd[c]? = some a ∧ kd[c + 1]? = some b ∧ p[at_]? = some a ∧ q[at_]? = some b
  tail : ∀ j, at_ ≤ j → j + 1 < q.length → ∃ x y ksx kdx z ksy k0 kdy, p[j]? = some x ∧ q[j]? = some y ∧ lkp S x = some (.node ksx kdx) ∧ kdx.getLast? = some z ∧ p[j + 1]? = some z ∧ lkp S y = some (.node ksy (k0 :: kdy)) ∧ q[j + 1]? = some k0
theorem fc_at {S : List (Int × Pg)} : ∀ {q : List Int}, FC S q → ∀ j, j + 1 < q.length → ∃ y ks k0 kd, q[j]? = some y ∧ lkp S y = some (.node ks (k0 :: kd)) ∧ q[j + 1]? = some k0
  | [], _, j, h => by simp at h
  | [_], _, j, h => by simp at h
  | x :: y :: r, ⟨⟨ks, kd, e⟩, f⟩, j, h => by
    cases j with
    | zero => exact ⟨x, ks, y, kd, rfl, e, rfl⟩
    | succ j => exact fc_at f j (by simpa using h)
theorem lc_at {S : List (Int × Pg)} : ∀ {q : List Int}, LC S q → ∀ j, j + 1 < q.length → ∃ y ks kd z, q[j]? = some y ∧ lkp S y = some (.node ks kd) ∧ kd.getLast? = some z ∧ q[j + 1]? = some z
  | [], _, j, h => by simp at h
  | [_], _, j, h => by simp at h
  | x :: y :: r, ⟨⟨ks, kd, e, e2⟩, f⟩, j, h => by
    cases j with
    | zero => exact ⟨x, ks, kd, y, rfl, e, e2, rfl⟩
    | succ j => exact lc_at f j (by simpa using h)
theorem adjI {S : List (Int × Pg)} {key : Int} {p q : List Int} (h : Adj S key p q) : ∃ k, AdjI S key p q k := by
  induction h with
  | @here n a b ks kd c p q h1 h2 h3 h4 h5 h6 h7 =>
    refine ⟨1, by decide, by simp, by simp [h7], fun j hj => ?_, ⟨n, ks, kd, c, a, b, rfl, h1, h2, h3, h4, rfl, rfl⟩, fun j hj hj2 => ?_⟩
    · obtain rfl : j = 0 := by omega
      rfl
    · obtain ⟨j, rfl⟩ : ∃ i, j = i + 1 := ⟨j - 1, by omega⟩
      simp only [List.length_cons] at hj2
      obtain ⟨x, ksx, kdx, z, x1, x2, x3, x4⟩ := lc_at h5 j (by simp only [List.length_cons]; omega)
      obtain ⟨y, ksy, k0, kdy, y1, y2, y3⟩ := fc_at h6 j (by simp only [List.length_cons]; omega)
      exact ⟨x, y, ksx, kdx, z, ksy, k0, kdy, by rw [List.getElem?_cons_succ]; exact x1, by rw [List.getElem?_cons_succ]; exact y1, x2, x3, by rw [List.getElem?_cons_succ]; exact x4, y2, by rw [List.getElem?_cons_succ]; exact y3⟩
  | @next n p q _ ih =>
    obtain ⟨k, w⟩ := ih
    refine ⟨k + 1, Nat.succ_pos _, by rw [List.length_cons]; exact Nat.succ_lt_succ w.lt, by rw [List.length_cons, List.length_cons, w.plen], fun j hj => ?_, ?_, fun j hj hj2 => ?_⟩
    · cases j with
      | zero => rfl
      | succ j =>
        rw [List.getElem?_cons_succ, List.getElem?_cons_succ]
        exact w.same j (by omega)
    · obtain ⟨m, ks, kd, c, a, b, z0, z1⟩ := w.node
      refine ⟨m, ks, kd, c, a, b, ?_, ?_⟩
      · have := w.pos
        rw [show k + 1 - 1 = (k - 1) + 1 by omega, List.getElem?_cons_succ]
        exact z0
      · rw [List.getElem?_cons_succ, List.getElem?_cons_succ]
        exact z1
    · obtain ⟨j, rfl⟩ : ∃ i, j = i + 1 := ⟨j - 1, by omega⟩
      have z := w.tail j (by omega) (by simpa using hj2)
      simpa only [List.getElem?_cons_succ] using z
/-! columns -/
def colAt : Nat → (l : Nat) → Tr l → List Int
  | 0, l, t => [num l t]
  | _ + 1, 0, _ => []
  | j + 1, l + 1, t => t.kids.flatMap (colAt j l)
theorem fm_one {α β : Type} (f : α → β) : ∀ F : List α, F.flatMap (fun t => [f t]) = F.map f
  | [] => rfl
  | t :: F => by rw [List.flatMap_cons, fm_one f F]; rfl
theorem rows_col : ∀ {m : Nat} {F : List (Tr m)} (j : Nat), j ≤ m → (rows m F)[j]? = some (F.flatMap (colAt j m))
  | m, F, 0, _ => by
    obtain ⟨r, e⟩ := rows_cons F
    have e2 : F.flatMap (colAt 0 m) = F.map (num m) := fm_one (num m) F
    rw [e, e2]
    rfl
  | 0, F, j + 1, h => by omega
  | m + 1, F, j + 1, h => by
    show (F.map (num (m + 1)) :: rows m (kidsF F))[j + 1]? = _
    rw [List.getElem?_cons_succ, rows_col j (by omega)]
    show some ((F.flatMap Tr.kids).flatMap (colAt j m)) = some (F.flatMap fun t => t.kids.flatMap (colAt j m))
    rw [List.flatMap_assoc]
def dd (o xs : List Int) : List Int := xs.foldl (fun o x => if x ∈ o then o else o ++ [x]) o
theorem dd_app {o a b : List Int} : dd o (a ++ b) = dd (dd o a) b := List.foldl_append ..
theorem dd_same : ∀ {xs o : List Int}, (∀ x ∈ xs, x ∈ o) → dd o xs = o
  | [], _, _ => rfl
  | x :: xs, o, h => by
    show dd (if x ∈ o then o else o ++ [x]) xs = o
    rw [if_pos (h x (List.mem_cons_self ..)), dd_same fun y hy => h y (List.mem_cons_of_mem _ hy)]
theorem dd_fm {l : Nat} {j : Nat} {g : Tr l → List Int} : ∀ {L : List (Tr l)} {o : List Int}, (∀ u ∈ L, ∀ o : List Int, (o ++ colAt j l u).Nodup → dd o (g u) = o ++ colAt j l u) → (o ++ L.flatMap (colAt j l)).Nodup → dd o (L.flatMap g) = o ++ L.flatMap (colAt j l)
  | [], o, _, _ => by rw [List.flatMap_nil, List.flatMap_nil, List.append_nil]; rfl
  | u :: L, o, h, nd => by
    rw [List.flatMap_cons, ← List.append_assoc] at nd
    have n1 : (o ++ colAt j l u).Nodup := nd.sublist (List.sublist_append_left ..)
    rw [List.flatMap_cons, List.flatMap_cons, dd_app, h u (List.mem_cons_self ..) o n1, dd_fm (fun v hv => h v (List.mem_cons_of_mem _ hv)) nd, List.append_assoc]
theorem dd_col {S : List (Int × Pg)} : ∀ {l : Nat} {t : Tr l} {j : Nat} {o : List Int}, Laid S l t → KeyOk l t → j ≤ l → (o ++ colAt j l t).Nodup → dd o ((paths l t).map fun p => p.getD j 0) = o ++ colAt j l t
  | l, t, 0, o, hL, hK, _, nd => by
    have w := psOk hL hK
    obtain ⟨p, r, e, _⟩ := w.first
    have hh : ∀ q ∈ paths l t, q.getD 0 0 = num l t := fun q hq => by
      obtain ⟨_, r, rfl⟩ := w.heads q hq
      rfl
    have e0 : colAt 0 l t = [num l t] := by cases l <;> rfl
    rw [e0] at nd ⊢
    rw [e, List.map_cons, hh p (by rw [e]; exact List.mem_cons_self ..)]
    show dd (if num l t ∈ o then o else o ++ [num l t]) _ = _
    rw [if_neg fun z => (List.nodup_append.mp nd).2.2 _ z _ (List.mem_cons_self ..) rfl]
    refine dd_same fun x hx => ?_
    obtain ⟨q, hq, rfl⟩ := List.mem_map.mp hx
    rw [hh q (by rw [e]; exact List.mem_cons_of_mem _ hq)]
    exact List.mem_append_right _ (List.mem_cons_self ..)
  | 0, t, j + 1, o, _, _, h, _ => by omega
  | l + 1, t, j + 1, o, ⟨_, h2⟩, ⟨_, _, _, k4⟩, h, nd => by
    have e2 : paths (l + 1) t = (t.kids.flatMap (paths l)).map fun p => num (l + 1) t :: p := rfl
    have e3 : ((paths (l + 1) t).map fun p => p.getD (j + 1) 0) = t.kids.flatMap fun u => (paths l u).map fun p => p.getD j 0 := by
      rw [e2, List.map_map, ← fm_map]
      rfl
    rw [e3]
    exact dd_fm (fun u hu o nd => dd_col (h2 u hu) (k4 u hu) (by omega) nd) nd
theorem leaf_col : ∀ {l : Nat} {t : Tr l}, ((paths l t).map fun p => p.getD l 0) = lvs l t
  | 0, _ => rfl
  | l + 1, t => by
    have e2 : paths (l + 1) t = (t.kids.flatMap (paths l)).map fun p => num (l + 1) t :: p := rfl
    have e3 : ((paths (l + 1) t).map fun p => p.getD (l + 1) 0) = t.kids.flatMap fun u => (paths l u).map fun p => p.getD l 0 := by
      rw [e2, List.map_map, ← fm_map]
      rfl
    rw [e3]
    show _ = t.kids.flatMap (lvs l)
    congr 1
    funext u
    exact leaf_col
/-! the keys of the nodes -/
def keyn (S : List (Int × Pg)) (n : Int) : List Int := match lkp S n with
  | some (.node ks _) => ks
  | _ => []
def keyq (q : Int × Pg) : List Int := match q.2 with
  | .node ks _ => ks
  | _ => []
theorem join_perm : ∀ {ks : List Int} {bs : List (List Int)}, ks.length + 1 = bs.length → (joinK ks bs).Perm (ks ++ bs.flatten)
  | _, [], h => by cases h
  | [], [b], _ => by
    show b.Perm ([b].flatten)
    rw [List.flatten_cons, List.flatten_nil, List.append_nil]
  | [], _ :: _ :: _, h => by simp at h
  | k :: ks, b :: bs, h => by
    have ih := join_perm (ks := ks) (bs := bs) (by simpa using h)
    show (b ++ k :: joinK ks bs).Perm (k :: ks ++ (b :: bs).flatten)
    rw [List.flatten_cons, List.cons_append]
    refine (List.perm_middle).trans (List.Perm.cons k ?_)
    refine (List.Perm.append_left b ih).trans ?_
    rw [← List.append_assoc, ← List.append_assoc]
    exact List.Perm.append_right _ List.perm_append_comm
theorem fm_perm {α β : Type} {f g : α → List β} : ∀ {L : List α}, (∀ x ∈ L, (f x).Perm (g x)) → (L.flatMap f).Perm (L.flatMap g)
  | [], _ => .nil
  | x :: L, h => by
    rw [List.flatMap_cons, List.flatMap_cons]
    exact (h x (List.mem_cons_self ..)).append (fm_perm fun y hy => h y (List.mem_cons_of_mem _ hy))
theorem keyn_perm {S : List (Int × Pg)} : ∀ {l : Nat} {t : Tr l}, Laid S l t → KeyOk l t → ((nums l t).flatMap (keyn S)).Perm (bks l t)
  | 0, t, ⟨nx, h⟩, _ => by
    have e : keyn S (num 0 t) = [] := by unfold keyn; rw [h]
    show ([num 0 t].flatMap (keyn S)).Perm []
    rw [List.flatMap_cons, e]
    exact .nil
  | l + 1, t, ⟨h1, h2⟩, ⟨_, _, k3, k4⟩ => by
    have e : keyn S (num (l + 1) t) = t.keys := by unfold keyn; rw [h1]
    show ((num (l + 1) t :: t.kids.flatMap (nums l)).flatMap (keyn S)).Perm (joinK t.keys (t.kids.map (bks l)))
    rw [List.flatMap_cons, e, List.flatMap_assoc]
    refine ((List.Perm.append_left _ ?_).trans (join_perm (by rw [List.length_map]; exact k3)).symm)
    have ef : (t.kids.map (bks l)).flatten = t.kids.flatMap (bks l) := (List.flatMap_def ..).symm
    rw [ef]
    exact fm_perm fun u hu => keyn_perm (h2 u hu) (k4 u hu)
theorem keyq_perm {room l : Nat} {t : Tr l} {S : List (Int × Pg)} (h : TR.Tree room l t S) : (S.flatMap keyq).Perm (bks l t) := by
  have nd : (S.map (·.1)).Nodup := h.perm.nodup_iff.mpr h.nodup
  have e : ∀ L : List (Int × Pg), (∀ q ∈ L, q ∈ S) → L.flatMap keyq = (L.map (·.1)).flatMap (keyn S) := by
    intro L hL
    induction L with
    | nil => rfl
    | cons q L ih =>
      have z : keyn S q.1 = keyq q := by
        unfold keyn keyq
        rw [mem_lkp nd (g := q.2) (hL q (List.mem_cons_self ..))]
        cases q.2 <;> rfl
      rw [List.map_cons, List.flatMap_cons, List.flatMap_cons, ih fun x hx => hL x (List.mem_cons_of_mem _ hx), z]
  rw [e S fun q hq => hq]
  exact (List.Perm.flatMap_right _ h.perm).trans (keyn_perm h.laid h.keyOk)
end K12

namespace K12
open PySem PySem.Spec PyProof.Rows L2 RZ HX TR RP EQT
theorem sorted_uniq : ∀ {a b : List Int}, a.Perm b → a.Pairwise (· ≤ ·) → b.Pairwise (· < ·) → a = b
  | [], b, p, _, _ => (List.Perm.nil_eq p)
  | x :: a, [], p, _, _ => by
    have := p.length_eq
    cases this
  | x :: a, y :: b, p, ha, hb => by
    have hx : x ∈ y :: b := p.mem_iff.mp (List.mem_cons_self ..)
    have hy : y ∈ x :: a := p.mem_iff.mpr (List.mem_cons_self ..)
    obtain ⟨a1, a2⟩ := List.pairwise_cons.mp ha
    obtain ⟨b1, b2⟩ := List.pairwise_cons.mp hb
    have e : x = y := by
      rcases List.mem_cons.mp hx with e | hx
      · exact e
      · rcases List.mem_cons.mp hy with e | hy
        · exact e.symm
        · have := b1 x hx
          have := a1 y hy
          omega
    subst e
    rw [sorted_uniq p.cons_inv a2 b2]
theorem same_but {H0 H H' : Hp} {p : Addr} (s : Same H0 H) (n : H0 p = none) (b : But p H H') : Same H0 H' := fun c o z => b c o (ne_of_none z n) (s c o z)
theorem sqT_kp {K : PySem.W.Frag} {H H' : Hp} {a : Addr} {xs : List V} (k : Keep H H') (h : SqT K H a xs) : SqT K H' a xs := by
  rcases h with (h | ⟨o, h⟩) | h
  · exact .inl (.inl (k _ _ h))
  · exact .inl (.inr ⟨o, k.frz h⟩)
  · exact .inr h
section
variable {P : Program} {w : World} {K : PySem.W.Frag} {mg : Str → Option Value} {base : Heap}
def sp_law_node_keys : Sp := fun vs H Q _ => ∃ (v : V) (room l : Nat) (t : Tr l) (S : List (Int × Pg)), vs = [v] ∧ SndAt H v room l t S ∧ (bks l t).length ≤ 1000 ∧ (bks l t).Pairwise (· < ·) ∧
  ∀ (H' : Hp) (a : Addr), Same H H' → H a = none → H' a = some (.lst ((bks l t).map V.int)) → Q (.ref a) H'
theorem ok_law_node_keys (T : TX K mg) : FnOk P w K mg base CX0 1 (He.ga K "_law_node_keys") T.fd_law_node_keys ["tree"] sp_law_node_keys := by
  refine T.F_law_node_keys.ok sc_law_node_keys (fun vs H Q E h => ?_) (fun cdv A outer st H vs Q E hr h => ?_)
  · obtain ⟨v, room, l, t, S, rfl, _⟩ := h
    rfl
  · obtain ⟨v, room, l, t, S, rfl, ⟨hT, a, b, o, xs, rfl, ha, hb, ho, hx⟩, few, rise, kq⟩ := h
    refine ⟨_, PSs.nox (pss_cons (ps_set (i := 1) sc_law_node_keys.nd rfl (Or.inl rfl) (RU.pe_lstS pa_nil))
 (pss_cons (ps_for PassesOwn.never rfl (pi_tup (pe_ix ix_tup (pv 0) pe_int (fun _ _ => rfl))) (pg_tup rfl (pgs_cons (pg_name (i := 2) sc_law_node_keys.nd rfl (Or.inl rfl)) (pgs_cons (pg_name (i := 3) sc_law_node_keys.nd rfl (Or.inl rfl)) pgs_nil)))
 (pss_one (ps_if (pt_cmpR op_eq (pe_ix ix_tup (pv 3) pe_int (fun _ _ => rfl)) pe_str (nomark _))
 (pss_one (ps_expr (pe_bm PySem.F.plainAttrs_list PySem.F.slot_list_extend PySem.F.type_list_extend mt_extend (pv 1) (pa_cons (pe_callTy RU.call_lstS rfl T.n_list (by decide +kernel) (pa_cons (pe_ix ix_tup (pv 3) pe_int (fun _ _ => rfl)) pa_nil)) pa_nil))))
 pss_nil)))
 (pss_one (ps_ret (pe_callB cr_sortedI rfl T.n_sorted (by decide +kernel) (pa_cons (pv 1) pa_nil)))))), ?_⟩
    have kp := keyq_perm hT
    refine ⟨Nat.zero_le _, fun F H1 s1 hF0 hF1 => ?_⟩
    refine ⟨_, rfl, a, _, 2, _, rfl, rfl, SqT.of (s1 _ _ ha), rfl, b, rfl, ⟨_, sqF (s1 _ _ hb)⟩, ?_⟩
    refine for_tup (xs := xs) (fun i σ H' => ∃ v2 v3, σ = [some (.ref a), some (.ref F), v2, v3] ∧ But F H1 H' ∧ H' F = some (.lst (((S.take i).flatMap keyq).map V.int))) ⟨_, _, rfl, But.refl F H1, hF1⟩ (fun i σ H' _ z => ?_) ?_ ?_
    · obtain ⟨_, _, _, b2, _⟩ := z
      exact sqF (b2 _ _ (ne_of_none hb hF0) (s1 _ _ hb))
    · rintro i x σ H2 hxi ⟨v2, v3, rfl, b2, hF2⟩
      obtain ⟨q, hq, hxq⟩ := pget1 hx hxi
      have k2 : Keep H H2 := ⟨fun c u tu e => b2 _ _ (ne_of_none e hF0) (s1 _ _ e)⟩
      obtain ⟨tx, pv, rfl, htx, hpv⟩ := hxq.keep k2
      have part : ((S.take i).flatMap keyq).length + (keyq q).length ≤ 1000 := by
        have z := sum_part1 (fun u => (keyq u).length) hq
        have z2 := kp.length_eq
        rw [List.length_flatMap] at z2 ⊢
        omega
      refine ⟨tx, _, rfl, SqT.of htx, rfl, _, _, rfl, _, _, rfl, rfl, ?_⟩
      cases hg : q.2 with
      | leaf ps nx =>
        rw [hg] at hpv
        obtain ⟨pt, pq, rfl, hpt, hpq⟩ := hpv
        have e : keyq q = [] := by unfold keyq; rw [hg]
        refine ⟨_, rfl, pt, _, 0, _, rfl, rfl, SqT.of hpt, rfl, rfl, _, rfl, iteF ⟨_, _, rfl, b2, ?_⟩⟩
        rw [take_more hq, List.flatMap_append, List.flatMap_cons, e]
        simpa using hF2
      | node ks kd =>
        rw [hg] at hpv
        obtain ⟨pt, pq1, pq2, rfl, hpt, hpq1, hpq2⟩ := hpv
        have e : keyq q = ks := by unfold keyq; rw [hg]
        refine ⟨_, rfl, pt, _, 0, _, rfl, rfl, SqT.of hpt, rfl, rfl, _, rfl, iteT ?_⟩
        refine ⟨_, rfl, .inl ⟨rfl, _, SqL.of hF2⟩, _, rfl, pt, _, 1, _, rfl, rfl, SqT.of hpt, rfl, pq1, _, rfl, .inr (SqT.of hpq1), fun n H3 s3 nn hn => ?_⟩
        refine ⟨F, n, _, _, rfl, rfl, s3 _ _ hF2, hn, ?_, ?_⟩
        · rw [List.length_map, List.length_map]
          exact Nat.le_trans (by rw [e] at part; omega : _ ≤ 1000) (by decide)
        refine ⟨_, _, rfl, (But.trans b2 (But.of s3)).upd, ?_⟩
        rw [upd_same, take_more hq, List.flatMap_append, List.flatMap_cons, List.flatMap_nil, List.append_nil, e, List.map_append]
    · rintro σ H2 ⟨v2, v3, rfl, b2, hF2⟩
      rw [hx.length, List.take_length] at hF2
      refine ⟨_, rfl, F, _, rfl, SqL.of hF2, fun ns p p1 p2 np => ?_⟩
      have e := sorted_uniq (p1.trans kp) p2 rise
      subst e
      have s02 : Same H H2 := same_but s1 hF0 b2
      exact kq _ p (s02.trans (same_new np)) (Same.free s02 np) upd_same
theorem path_sub : ∀ {l : Nat} {t : Tr l}, ∀ p ∈ paths l t, p.Sublist (nums l t)
  | 0, t, p, hp => by obtain rfl := List.mem_singleton.mp hp; exact List.Sublist.refl _
  | l + 1, t, p, hp => by
    have e2 : paths (l + 1) t = (t.kids.flatMap (paths l)).map fun p => num (l + 1) t :: p := rfl
    rw [e2] at hp
    obtain ⟨q, hq, rfl⟩ := List.mem_map.mp hp
    obtain ⟨u, hu, hq⟩ := List.mem_flatMap.mp hq
    show (num (l + 1) t :: q).Sublist (num (l + 1) t :: t.kids.flatMap (nums l))
    refine List.Sublist.cons₂ _ ((path_sub q hq).trans ?_)
    obtain ⟨a, b, e⟩ := List.append_of_mem hu
    rw [e, List.flatMap_append, List.flatMap_cons]
    exact (List.sublist_append_left ..).trans (List.sublist_append_right ..)
theorem idx_at {ns : List Int} (nd : ns.Nodup) {j : Nat} {x : Int} (h : ns[j]? = some x) : ns.idxOf x = j := by
  have hm := List.mem_of_getElem? h
  have hi := List.idxOf_lt_length_of_mem hm
  exact nodup_at nd (by rw [List.getElem?_eq_getElem hi]; exact congrArg some (List.getElem_idxOf hi)) h
theorem int_at {ns : List Int} {j : Nat} {x : Int} (h : ns[j]? = some x) : (ns.map V.int)[j]? = some (V.int x) := by
  rw [List.getElem?_map, h]
  rfl
theorem last_at12 {ns : List Int} {z : Int} (h : ns.getLast? = some z) : atI (ns.map V.int) (-1) = some (.int z) := by
  rw [List.getLast?_eq_getElem?] at h
  have := (List.getElem?_eq_some_iff.mp h).1
  exact at_last (n := ns.length - 1) (by rw [List.length_map]; omega) (int_at h)
def sp_law_parts_right (K : PySem.W.Frag) : Sp := fun vs H Q _ => ∃ (d a b : Addr) (S : List (Int × Pg)) (key : Int) (p q : List Int), vs = [.ref d, .int key, .ref a, .ref b] ∧ DctAt H d S ∧ SqT K H a (p.map V.int) ∧ FzT H b (q.map V.int) ∧ (∃ k, AdjI S key p q k) ∧ q.Nodup ∧ (∀ n ks kd, lkp S n = some (.node ks kd) → kd.Nodup) ∧ q.length ≤ 1000 ∧
  ∀ H', Same H H' → Q (.bl true) H'
theorem ok_law_parts_right (T : TX K mg) : FnOk P w K mg base CX0 1 (He.ga K "_law_parts_right") T.fd_law_parts_right ["pages", "key", "ahead", "here"] (sp_law_parts_right K) := by
  refine T.F_law_parts_right.ok sc_law_parts_right (fun vs H Q E h => ?_) (fun cdv A outer st H vs Q E hr h => ?_)
  · obtain ⟨d, a, b, S, key, p, q, rfl, _⟩ := h
    rfl
  · obtain ⟨d, a, b, S, key, p, q, rfl, hd, ha, hb, ⟨k, w⟩, ndq, ndk, few, kq⟩ := h
    refine ⟨_, PSs.nox (pss_cons (ps_set (i := 4) sc_law_parts_right.nd rfl (Or.inl rfl) pe_int)
 (pss_cons (ps_while PassesOwn.never (PW.pt (pw_and (pt_cmpR op_lt (pv 4) (pe_callB call_len_seq rfl T.n_len PySem.boot_len (pa_cons (pv 3) pa_nil)) (nomark _)) (pw_and1 (pt_cmpR op_eq (pe_ix ix_tup (pv 2) (pv 4) (fun _ _ => rfl)) (pe_ix ix_tup (pv 3) (pv 4) (fun _ _ => rfl)) (nomark _)))))
 (pss_one (ps_set (i := 4) sc_law_parts_right.nd rfl (Or.inl rfl) (pe_op op_add (pv 4) pe_int))))
 (pss_cons (ps_if (PW.pt (pw_or (pt_cmpR op_eq (pv 4) pe_int (nomark _)) (pw_or1 (pt_cmpR op_eq (pv 4) (pe_callB call_len_seq rfl T.n_len PySem.boot_len (pa_cons (pv 3) pa_nil)) (nomark _)))))
 (pss_one (ps_ret pe_bl))
 pss_nil)
 (pss_cons (ps_asg (pe_dget (hu_of hr) (pv 0) (pe_ix ix_tup (pv 3) (pe_op op_sub (pv 4) pe_int) (fun _ _ => rfl)) (fun _ _ => rfl)) (pg_tup rfl (pgs_cons (pg_name (i := 5) sc_law_parts_right.nd rfl (Or.inl rfl)) (pgs_cons (pg_name (i := 6) sc_law_parts_right.nd rfl (Or.inl rfl)) (pgs_cons (pg_name (i := 7) sc_law_parts_right.nd rfl (Or.inl rfl)) pgs_nil)))))
 (pss_cons (ps_set (i := 8) sc_law_parts_right.nd rfl (Or.inl rfl) (RU.pe_bmF PySem.F.slot_tuple_index PySem.F.type_tuple_index RU.mt_tindexI (pv 7) (pa_cons (pe_ix ix_tup (pv 3) (pv 4) (fun _ _ => rfl)) pa_nil)))
 (pss_cons (ps_if (PW.pt (pw_or (pt_cmpR op_eq (pv 8) pe_int (nomark _)) (pw_or (pt_cmpR op_ne (pe_ix ix_tup (pv 6) (pe_op op_sub (pv 8) pe_int) (fun _ _ => rfl)) (pv 1) (nomark _)) (pw_or1 (pt_cmpR op_ne (pe_ix ix_tup (pv 7) (pe_op op_sub (pv 8) pe_int) (fun _ _ => rfl)) (pe_ix ix_tup (pv 2) (pv 4) (fun _ _ => rfl)) (nomark _))))))
 (pss_one (ps_ret pe_bl))
 pss_nil)
 (pss_cons (ps_for PassesOwn.never rfl (RU.pi_zip3 rfl T.n_zip (pa_cons (pe_slice EQT.sl_tupN (pv 3) (po_some (pv 4)) po_none) (pa_cons (pe_slice EQT.sl_tupN (pv 2) (po_some (pe_op op_add (pv 4) pe_int)) po_none) (pa_cons (pe_slice EQT.sl_tupN (pv 3) (po_some (pe_op op_add (pv 4) pe_int)) po_none) pa_nil)))) (pg_tup rfl (pgs_cons (pg_name (i := 9) sc_law_parts_right.nd rfl (Or.inl rfl)) (pgs_cons (pg_name (i := 10) sc_law_parts_right.nd rfl (Or.inl rfl)) (pgs_cons (pg_name (i := 11) sc_law_parts_right.nd rfl (Or.inl rfl)) pgs_nil))))
 (pss_one (ps_if (PW.pt (pw_or (pt_cmpR op_ne (pe_ix ix_tup (pe_ix ix_tup (pe_dget (hu_of hr) (pv 0) (pv 9) (fun _ _ => rfl)) pe_int (fun _ _ => rfl)) pe_int (fun _ _ => rfl)) (pv 11) (nomark _)) (pw_or1 (pt_cmpR op_ne (pe_ix ix_tup (pe_ix ix_tup (pe_dget (hu_of hr) (pv 0) (pe_ix ix_tup (pv 2) (RU.pe_bmF PySem.F.slot_tuple_index PySem.F.type_tuple_index RU.mt_tindexI (pv 3) (pa_cons (pv 9) pa_nil)) (fun _ _ => rfl)) (fun _ _ => rfl)) pe_int (fun _ _ => rfl)) (pe_un un_neg pe_int) (fun _ _ => rfl)) (pv 10) (nomark _)))))
 (pss_one (ps_ret pe_bl))
 pss_nil)))
 (pss_one (ps_ret pe_bl))))))))), ?_⟩
    obtain ⟨n, ks, kd, c, x, y, z0, z1, z2, z3, z4, z5, z6⟩ := w.node
    have ndkd := ndk n ks kd z1
    have kpos := w.pos
    have klt := w.lt
    have kpl := w.plen
    have nexy : x ≠ y := fun e => by
      rw [e] at z3
      have := nodup_at ndkd z3 z4
      omega
    refine ⟨fun m σ H' => ∃ i, σ = [some (.ref d), some (.int key), some (.ref a), some (.ref b), some (.int ((i : Nat) : Int)), none, none, none, none, none, none, none] ∧ Same H H' ∧ i ≤ k ∧ m = k - i, ⟨k, 0, rfl, Same.refl H, Nat.zero_le _, rfl⟩, ?_⟩
    rintro m σ H1 ⟨i, rfl, s1, hi, rfl⟩
    have ha1 := sqT_kp (Keep.of s1) ha
    have hf1 := FzT.same s1 hb
    have hb1 : SqT K H1 b (q.map V.int) := hf1.sq
    refine ⟨_, rfl, _, rfl, b, _, rfl, .inr hb1, _, _, rfl, rfl, _, rfl, ?_⟩
    rw [List.length_map, decide_eq_true (by omega : (i : Int) < (q.length : Int))]
    rcases Nat.lt_or_ge i k with ci | ci
    · obtain ⟨v, hv⟩ : ∃ v, q[i]? = some v := ⟨_, List.getElem?_eq_getElem (by omega)⟩
      have hu : p[i]? = some v := by rw [w.same i ci]; exact hv
      refine iteT ⟨_, rfl, _, rfl, a, _, _, _, rfl, rfl, ha1, at_of (int_at hu) rfl, _, rfl, _, rfl, b, _, _, _, rfl, rfl, hb1, at_of (int_at hv) rfl, rfl, _, rfl, ?_⟩
      refine (congrArg (fun b => (if b = true then _ else _)) (decide_eq_true rfl : decide (V.int v = V.int v) = true)).mpr (iteT ?_)
      refine ⟨_, fun σ' H' h => ⟨k - (i + 1), by omega, h⟩, ?_⟩
      exact ⟨_, rfl, _, _, rfl, rfl, i + 1, rfl, s1, ci, rfl⟩
    · obtain rfl : i = k := by omega
      refine iteT ⟨_, rfl, _, rfl, a, _, _, _, rfl, rfl, ha1, at_of (int_at z5) rfl, _, rfl, _, rfl, b, _, _, _, rfl, rfl, hb1, at_of (int_at z6) rfl, rfl, _, rfl, ?_⟩
      refine (congrArg (fun b => (if b = true then _ else _)) (decide_eq_false (fun e => nexy (by injection e)) : decide (V.int x = V.int y) = false)).mpr (iteF ?_)
      have hd1 := hd.same s1
      refine ⟨_, rfl, rfl, _, rfl, ?_⟩
      refine (congrArg (fun b => (if b = true then _ else _)) (decide_eq_false (fun e => by injection e; omega) : decide (V.int ((i : Nat) : Int) = V.int 0) = false)).mpr (iteF ?_)
      refine ⟨_, rfl, _, rfl, b, _, rfl, .inr hb1, rfl, _, rfl, ?_⟩
      rw [List.length_map]
      refine (congrArg (fun b => (if b = true then _ else _)) (decide_eq_false (fun e => by injection e; omega) : decide (V.int ((i : Nat) : Int) = V.int (q.length : Nat)) = false)).mpr (iteF ?_)
      obtain ⟨v, hv, t1, q1, q2, rfl, ht1, hq1, hq2⟩ := hd1.get z1
      refine ⟨_, rfl, _, rfl, _, rfl, _, _, rfl, rfl, b, _, _, _, rfl, rfl, hb1, at_of (int_at z0) (by omega), d, _, rfl, hv, t1, _, rfl, SqT.of ht1, rfl, _, _, rfl, _, _, rfl, _, _, rfl, rfl, ?_⟩
      have myk : y ∈ kd := List.mem_of_getElem? z4
      obtain ⟨o2, hq2a, hq2b⟩ := id hq2
      refine ⟨_, rfl, ⟨q2, o2, _, rfl, hq2a, hq2b⟩, _, rfl, _, rfl, b, _, _, _, rfl, rfl, hb1, at_of (int_at z6) rfl, q2, kd, y, rfl, rfl, hq2.sq, myk, ?_⟩
      rw [idx_at ndkd z4]
      refine ⟨_, rfl, rfl, _, rfl, ?_⟩
      refine (congrArg (fun b => (if b = true then _ else _)) (decide_eq_false (fun e => by injection e; omega) : decide (V.int ((c + 1 : Nat) : Int) = V.int 0) = false)).mpr (iteF ?_)
      have ec : ((c + 1 : Nat) : Int) - 1 = (c : Int) := by omega
      refine ⟨_, rfl, _, rfl, _, _, rfl, rfl, q1, _, _, _, rfl, rfl, SqT.of hq1, at_of (int_at z2) ec, _, rfl, rfl, _, rfl, ?_⟩
      have en : ∀ v : Int, (!decide (V.int v = V.int v)) = false := fun v => by rw [decide_eq_true rfl]; rfl
      rw [en]
      refine iteF ⟨_, rfl, _, rfl, _, _, rfl, rfl, q2, _, _, _, rfl, rfl, hq2.sq, at_of (int_at z3) ec, _, rfl, _, rfl, a, _, _, _, rfl, rfl, ha1, at_of (int_at z5) rfl, rfl, _, rfl, ?_⟩
      rw [en]
      refine iteF ⟨_, rfl, _, rfl, ((i : Nat) : Int), rfl, b, _, rfl, hb1, fun p1 H2 s2 m1 h1 => ⟨_, rfl, _, rfl, _, _, rfl, rfl, ((i + 1 : Nat) : Int), rfl, a, _, rfl, sqT_kp (Keep.of s2) ha1, fun p2 H3 s3 m2 h2 => ⟨_, rfl, _, rfl, _, _, rfl, rfl, ((i + 1 : Nat) : Int), rfl, b, _, rfl, sqT_kp (Keep.of (s2.trans s3)) hb1, fun p3 H4 s4 m3 h3 => ?_⟩⟩⟩
      rw [cut_from'] at h1 h2 h3
      have h14 := sqT_kp (Keep.of (s3.trans s4)) h1
      have h24 := sqT_kp (Keep.of s4) h2
      refine ⟨p1, p2, p3, _, _, _, rfl, h14, h24, h3, ?_⟩
      have lz : q.length - (i + 1) = min (min ((q.map V.int).drop i).length ((p.map V.int).drop (i + 1)).length) ((q.map V.int).drop (i + 1)).length := by
        simp only [List.length_drop, List.length_map]
        omega
      refine for_it (RU.walk_zip3 lz) (fun j σ H' => ∃ v9 v10 v11, σ = [some (.ref d), some (.int key), some (.ref a), some (.ref b), some (.int ((i : Nat) : Int)), some (.str "node"), some (.ref q1), some (.ref q2), some (.int ((c + 1 : Nat) : Int)), v9, v10, v11] ∧ Same H4 H') ⟨_, _, _, rfl, Same.refl H4⟩ (fun j σ H' _ z => by obtain ⟨_, _, _, _, f⟩ := z; exact ⟨sqT_kp (Keep.of f) h14, sqT_kp (Keep.of f) h24, sqT_kp (Keep.of f) h3⟩) ?_ ?_
      · rintro j x0 σ H5 H6 hj ⟨v9, v10, v11, rfl, s5⟩ ⟨tz, x1, x2, x3, rfl, htz, rfl, g1, g2, g3⟩
        obtain ⟨xa, ya, ksx, kdx, za, ksy, k0, kdy, w1, w2, w3, w4, w5, w6, w7⟩ := w.tail (i + j) (by omega) (by omega)
        replace g1 : ((q.map V.int).drop i)[j]? = some x1 := g1
        replace g2 : ((p.map V.int).drop (i + 1))[j]? = some x2 := g2
        replace g3 : ((q.map V.int).drop (i + 1))[j]? = some x3 := g3
        rw [List.getElem?_drop] at g1 g2 g3
        rw [int_at w2] at g1
        rw [show i + 1 + j = i + j + 1 by omega, int_at w5] at g2
        rw [show i + 1 + j = i + j + 1 by omega, int_at w7] at g3
        cases g1
        cases g2
        cases g3
        have sz : Same H5 (upd H5 tz (.tup [.int ya, .int za, .int k0])) := same_new htz
        have htz' : upd H5 tz (.tup [.int ya, .int za, .int k0]) tz = some (.tup [.int ya, .int za, .int k0]) := upd_same
        generalize upd H5 tz (.tup [.int ya, .int za, .int k0]) = H6 at sz htz'
        have s16 := (((s2.trans s3).trans s4).trans s5).trans sz
        obtain ⟨u1, hu1, ta1, qa1, qa2, rfl, hta1, _, hqa2⟩ := (hd1.same s16).get w6
        obtain ⟨u2, hu2, ta2, qb1, qb2, rfl, hta2, _, hqb2⟩ := (hd1.same s16).get w3
        refine ⟨tz, _, rfl, SqT.of htz', rfl, _, _, rfl, _, _, rfl, _, _, rfl, rfl, ?_⟩
        refine ⟨_, rfl, _, rfl, d, _, rfl, hu1, ta1, _, 2, _, rfl, rfl, SqT.of hta1, rfl, qa2, _, 0, _, rfl, rfl, hqa2.sq, (show atI ((k0 :: kdy).map V.int) 0 = some (V.int k0) from HX.at_of (j := 0) rfl rfl), _, rfl, rfl, _, rfl, ?_⟩
        rw [en]
        have hf6 := FzT.same s16 hf1
        obtain ⟨ob, hb6, hb7⟩ := id hf6
        refine iteF ⟨_, rfl, _, rfl, _, rfl, ⟨b, ob, _, rfl, hb6, hb7⟩, _, rfl, b, q, ya, rfl, rfl, hf6.sq, List.mem_of_getElem? w2, ?_⟩
        rw [idx_at ndq w2]
        refine ⟨a, _, _, _, rfl, rfl, sqT_kp (Keep.of s16) ha1, at_of (int_at w1) rfl, d, _, rfl, hu2, ta2, _, 2, _, rfl, rfl, SqT.of hta2, rfl, 1, rfl, qb2, _, _, _, rfl, rfl, hqb2.sq, last_at12 w4, _, rfl, rfl, _, rfl, ?_⟩
        rw [en]
        exact iteF ⟨_, _, _, rfl, s5.trans sz⟩
      · rintro σ H5 ⟨v9, v10, v11, rfl, s5⟩
        exact kq _ ((((s1.trans s2).trans s3).trans s4).trans s5)
end
end K12

namespace K12
open PySem PySem.Spec PyProof.Rows L2 RZ HX TR RP EQT
theorem shaped_tints (ns : List Int) : SeqAt.shaped (.tuple (ns.map PyData.int)) = true := by
  unfold SeqAt.shaped
  simp only [PyData.canLay0, lay_ints ns, PyData.depth, deep_ints ns]
  decide
theorem eqv_tints (a b : List Int) : PyData.eqv (.tuple (a.map PyData.int)) (.tuple (b.map PyData.int)) = decide (a = b) := by
  simp only [PyData.eqv, eqv_intsA]
theorem flat_ints (ks : List Int) : (ks.map V.int).all flatV = true := List.all_eq_true.mpr fun x hx => by
  obtain ⟨k, _, rfl⟩ := List.mem_map.mp hx
  rfl
theorem inV_ints {i : Int} {ks : List Int} : inV (.int i) (ks.map V.int) = decide (i ∈ ks) := by
  unfold inV
  rw [List.any_map, Bool.eq_iff_iff, List.any_eq_true, decide_eq_true_eq]
  constructor
  · rintro ⟨k, hk, e⟩
    have e' : k = i := by
      have z : eqV (.int k) (.int i) = true := e
      simpa [eqV] using z
    exact e' ▸ hk
  · intro h
    exact ⟨i, h, by show eqV (.int i) (.int i) = true; simp [eqV]⟩

theorem cnt_cons {k b : Int} {bs : List Int} : cntLe k (b :: bs) = (if b ≤ k then 1 else 0) + cntLe k bs := by
  unfold cntLe
  by_cases c : b ≤ k
  · rw [List.filter_cons_of_pos (p := fun b => decide (b ≤ k)) (decide_eq_true c), List.length_cons, if_pos c, Nat.add_comm]
  · rw [List.filter_cons_of_neg (p := fun b => decide (b ≤ k)) (by rw [decide_eq_true_eq]; exact c), if_neg c, Nat.zero_add]
theorem cnt_rise : ∀ {bs : List Int} {i : Nat} {k : Int}, bs.Pairwise (· < ·) → bs[i]? = some k → cntLe k bs = i + 1 ∧ cntLe (k - 1) bs = i
  | b :: bs, 0, k, h, e => by
    cases e
    obtain ⟨h1, h2⟩ := List.pairwise_cons.mp h
    rw [cnt_cons, cnt_cons, if_pos (Int.le_refl _), if_neg (by omega), cnt_none h1, cnt_none fun x hx => by have := h1 x hx; omega]
    exact ⟨rfl, rfl⟩
  | b :: bs, i + 1, k, h, e => by
    obtain ⟨h1, h2⟩ := List.pairwise_cons.mp h
    rw [List.getElem?_cons_succ] at e
    have z := h1 k (List.mem_of_getElem? e)
    obtain ⟨c1, c2⟩ := cnt_rise h2 e
    rw [cnt_cons, cnt_cons, if_pos (by omega), if_pos (by omega), c1, c2]
    omega
theorem ne_top {room l : Nat} {t : Tr l} (r3 : 3 ≤ room) (h : WfSh room l true (shp l t)) : l = 0 ∨ NE l t := by
  cases l with
  | zero => exact .inl rfl
  | succ l => exact .inr fun k hk => ne_of r3 (h.2.2 (shp l k) (List.mem_map_of_mem hk))
theorem wysT {room l : Nat} {t : Tr l} {S : List (Int × Pg)} (h : TR.Tree room l t S) : Wys l t 0 1000000001 := by
  rcases ne_top h.r3 h.wf with e | e
  · subst e
    exact ⟨.nil, nofun, rfl, fun k => rfl⟩
  · exact wys e h.keyOk h.keyB
theorem ways_at {room l : Nat} {t : Tr l} {S : List (Int × Pg)} (h : TR.Tree room l t S) {i : Nat} {k : Int} (e : (0 :: bks l t)[i]? = some k) : (paths l t)[i]? = some (wayOf l t k) := by
  have w := wysT h
  have z := w.way k
  cases i with
  | zero =>
    cases e
    rwa [cnt_none fun b hb => (w.bound b hb).1] at z
  | succ i =>
    rw [List.getElem?_cons_succ] at e
    rwa [(cnt_rise w.rise e).1] at z
theorem prev_at {room l : Nat} {t : Tr l} {S : List (Int × Pg)} (h : TR.Tree room l t S) {i : Nat} {k : Int} (e : (bks l t)[i]? = some k) : (paths l t)[i]? = some (wayOf l t (k - 1)) := by
  have w := wysT h
  have z := w.way (k - 1)
  rwa [(cnt_rise w.rise e).2] at z
theorem paths_few {room l : Nat} {t : Tr l} {S : List (Int × Pg)} (h : TR.Tree room l t S) : (paths l t).length ≤ 1000 ∧ (bks l t).length + 1 = (paths l t).length := by
  have w := wysT h
  have z : (paths l t).length = (lvs l t).length := by rw [← leaf_col (t := t), List.length_map]
  have z2 := lvs_len (t := t)
  have := h.few
  exact ⟨by omega, w.len.symm⟩
theorem num_sub {l : Nat} {t : Tr l} : [num l t].Sublist (nums l t) := by
  cases l with
  | zero => exact List.Sublist.refl _
  | succ l => exact List.Sublist.cons₂ _ (List.nil_sublist _)
theorem node_nd {S : List (Int × Pg)} {n : Int} {ks kd : List Int} (e : lkp S n = some (.node ks kd)) : ∀ {l : Nat} {t : Tr l}, Laid S l t → (nums l t).Nodup → n ∈ nums l t → kd.Nodup
  | 0, t, ⟨nx, h⟩, _, hn => by
    obtain rfl := List.mem_singleton.mp hn
    rw [h] at e
    cases e
  | l + 1, t, ⟨h1, h2⟩, nd, hn => by
    have nd2 : (t.kids.flatMap (nums l)).Nodup := (List.nodup_cons.mp nd).2
    rcases List.mem_cons.mp hn with rfl | hn
    · rw [h1] at e
      cases e
      rw [← fm_one]
      exact nd2.sublist (flatMap_sub fun u _ => num_sub)
    · obtain ⟨u, hu, hn⟩ := List.mem_flatMap.mp hn
      refine node_nd e (h2 u hu) (nd2.sublist ?_) hn
      obtain ⟨a, b, eab⟩ := List.append_of_mem hu
      rw [eab, List.flatMap_append, List.flatMap_cons]
      exact (List.sublist_append_left ..).trans (List.sublist_append_right ..)
theorem node_nd_all {room l : Nat} {t : Tr l} {S : List (Int × Pg)} (h : TR.Tree room l t S) : ∀ n ks kd, lkp S n = some (.node ks kd) → kd.Nodup := fun n ks kd e =>
  node_nd e h.laid h.nodup (h.perm.mem_iff.mp (List.mem_map_of_mem (f := (·.1)) (lkp_mem e)))
theorem dd_snoc {o xs : List Int} {x : Int} : dd o (xs ++ [x]) = if x ∈ dd o xs then dd o xs else dd o xs ++ [x] := by
  rw [dd_app]
  rfl
theorem dd_len : ∀ {xs o : List Int}, (dd o xs).length ≤ o.length + xs.length
  | [], o => Nat.le_refl _
  | x :: xs, o => by
    show (dd (if x ∈ o then o else o ++ [x]) xs).length ≤ _
    have z := dd_len (xs := xs) (o := if x ∈ o then o else o ++ [x])
    have y : (if x ∈ o then o else o ++ [x]).length ≤ o.length + 1 := by
      split
      · omega
      · rw [List.length_append]
        exact Nat.le_refl _
    rw [List.length_cons]
    omega
/-- a way, as a tuple that stays -/
def WyAt (H : Hp) (x : V) (p : List Int) : Prop := ∃ a, x = .ref a ∧ FzT H a (p.map V.int)
theorem WyAt.keep {H H' : Hp} (k : Keep H H') {x : V} {p : List Int} (h : WyAt H x p) : WyAt H' x p := by
  obtain ⟨a, e, h⟩ := h
  exact ⟨a, e, h.keep k⟩
section
variable {P : Program} {w : World} {K : PySem.W.Frag} {mg : Str → Option Value} {base : Heap}
def sp_law (K : PySem.W.Frag) : Sp := fun vs H Q _ => ∃ (a : Addr) (ns : List Int), vs = [.ref a] ∧ SqL K H a (ns.map V.int) ∧ ns.length ≤ 63 ∧ ∀ H', Q (.bl true) H'
theorem ok_law (T : TX K mg) : FnOk P w K mg base CX0 15 (He.ga K "law") T.fd_law ["script"] (sp_law K) := by
  have G_law_pot : FnOk P w K mg base CX0 1 (He.ga K "_law_pot") T.fd_law_pot ["script", "k"] (sp_law_pot K) := ok_law_pot T
  have G_law_take : FnOk P w K mg base CX0 1 (He.ga K "_law_take") T.fd_law_take ["pot", "many"] sp_law_take := ok_law_take T
  have G_law_world : FnOk P w K mg base CX0 10 (He.ga K "_law_world") T.fd_law_world ["pot", "k"] sp_law_world := ok_law_world T
  have G_law_node_keys : FnOk P w K mg base CX0 1 (He.ga K "_law_node_keys") T.fd_law_node_keys ["tree"] sp_law_node_keys := ok_law_node_keys T
  have G_law_parts_right : FnOk P w K mg base CX0 1 (He.ga K "_law_parts_right") T.fd_law_parts_right ["pages", "key", "ahead", "here"] (sp_law_parts_right K) := ok_law_parts_right T
  have G_way_to : FnOk P w K mg base CX0 13 (He.ga K "way_to") T.fd_way_to ["tree", "key"] sp_way_to := ok_way_to T
  have G_height_of : FnOk P w K mg base CX0 13 (He.ga K "height_of") T.fd_height_of ["tree"] sp_height_of := ok_height_of T
  have G_by_rank : FnOk P w K mg base CX0 13 (He.ga K "by_rank") T.fd_by_rank ["tree"] sp_by_rank := ok_by_rank T
  have b_law_pot := b_law_pot T
  have b_law_take := b_law_take T
  have b_law_world := b_law_world T
  have b_law_node_keys := b_law_node_keys T
  have b_law_parts_right := b_law_parts_right T
  have b_way_to := b_way_to T
  have b_height_of := b_height_of T
  have b_by_rank := b_by_rank T
  refine T.F_law.ok sc_law (fun vs H Q E h => ?_) (fun cdv A outer st H vs Q E hr h => ?_)
  · obtain ⟨a, ns, rfl, _⟩ := h
    rfl
  · obtain ⟨a, ns, rfl, hS, hlen, kq⟩ := h
    refine ⟨_, PSs.nox (pss_cons (ps_for PassesOwn.never rfl (pi_range1 rfl T.n_range (pa_cons (pe_op op_add (pe_callB (call_min2 rfl) rfl T.n_min (by decide +kernel) (pa_cons (pe_callB call_len_seq rfl T.n_len PySem.boot_len (pa_cons (pv 0) pa_nil)) (pa_cons pe_int pa_nil))) pe_int) pa_nil)) (pg_name (i := 1) sc_law.nd rfl (Or.inl rfl))
 (pss_cons (ps_set (i := 2) sc_law.nd rfl (Or.inl rfl) (pe_call G_law_pot (hr.mono (by first | decide | omega)) rfl T.g_law_pot T.F_law_pot.kp b_law_pot .nil pass0 (pa_cons (pv 0) (pa_cons (pv 1) pa_nil))))
 (pss_cons (ps_set (i := 3) sc_law.nd rfl (Or.inr rfl) (pe_call G_law_world (hr.mono (by first | decide | omega)) rfl T.g_law_world T.F_law_world.kp b_law_world .nil pass0 (pa_cons (pv 2) (pa_cons (pv 1) pa_nil))))
 (pss_cons (ps_set (i := 4) sc_law.nd rfl (Or.inl rfl) (pe_call G_law_node_keys (hr.mono (by first | decide | omega)) rfl T.g_law_node_keys T.F_law_node_keys.kp b_law_node_keys .nil pass0 (pa_cons (pv 3) pa_nil)))
 (pss_cons (ps_setLc (i := 6) (own := [("key", 5)]) (g := gName 5) (tt := tYes) rfl sc_law.nd rfl rfl (sw_true rfl rfl rfl (by decide +kernel)) (pi_list (pe_op RU.op_catLS (RU.pe_lstS (pa_cons pe_int pa_nil)) (pv 4))) (blkOk_by (own := [("key", 5)]) (N := ["script", "k", "pot", "tree", "keys", "key", "ways", "ahead", "here", "order", "level", "way"]) (sc := defScope s_law) (by decide +kernel)) (fun _ _ _ _ _ => (pg_name (i := 5) sc_law.nd rfl (Or.inl rfl))) (fun _ _ _ _ _ => pts_nil) (fun _ _ _ _ _ => (pe_call G_way_to (hr.mono (by first | decide | omega)) rfl T.g_way_to T.F_way_to.kp b_way_to .nil pass0 (pa_cons (pv 3) (pa_cons (pv 5) pa_nil)))))
 (pss_cons (ps_for PassesOwn.never rfl (RU.pi_zipLLL rfl T.n_zip (pa_cons (pv 4) (pa_cons (pv 6) (pa_cons (pe_slice RU.sl_lstS (pv 6) (po_some pe_int) po_none) pa_nil)))) (pg_tup rfl (pgs_cons (pg_name (i := 5) sc_law.nd rfl (Or.inl rfl)) (pgs_cons (pg_name (i := 7) sc_law.nd rfl (Or.inl rfl)) (pgs_cons (pg_name (i := 8) sc_law.nd rfl (Or.inl rfl)) pgs_nil))))
 (pss_cons (ps_if (pt_not (pt_val (pe_call G_law_parts_right (hr.mono (by first | decide | omega)) rfl T.g_law_parts_right T.F_law_parts_right.kp b_law_parts_right .nil pass0 (pa_cons (pe_callTy (RU.call_dictT rfl) rfl T.n_dict (by decide +kernel) (pa_cons (pe_ix ix_tup (pv 3) pe_int (fun _ _ => rfl)) pa_nil)) (pa_cons (pv 5) (pa_cons (pv 7) (pa_cons (pv 8) pa_nil)))))))
 (pss_one (ps_ret pe_bl))
 pss_nil)
 (pss_one (ps_if (PW.pt (pw_and (pt_cmpR op_eq (pe_call G_law_take (hr.mono (by first | decide | omega)) rfl T.g_law_take T.F_law_take.kp b_law_take .nil pass0 (pa_cons (pv 2) (pa_cons pe_int pa_nil))) pe_int (nomark _)) (pw_and1 (pt_cmpR (op_neD hr.units) (pe_call G_way_to (hr.mono (by first | decide | omega)) rfl T.g_way_to T.F_way_to.kp b_way_to .nil pass0 (pa_cons (pv 3) (pa_cons (pe_op op_sub (pv 5) pe_int) pa_nil))) (pv 7) (nomark _)))))
 (pss_one (ps_ret pe_bl))
 pss_nil))))
 (pss_cons (ps_set (i := 9) sc_law.nd rfl (Or.inl rfl) (RU.pe_lstS (pa_cons pe_int pa_nil)))
 (pss_cons (ps_for PassesOwn.never rfl (pi_range1 rfl T.n_range (pa_cons (pe_call G_height_of (hr.mono (by first | decide | omega)) rfl T.g_height_of T.F_height_of.kp b_height_of .nil pass0 (pa_cons (pv 3) pa_nil)) pa_nil)) (pg_name (i := 10) sc_law.nd rfl (Or.inl rfl))
 (pss_one (ps_for PassesOwn.never rfl (pi_list (pv 6)) (pg_name (i := 11) sc_law.nd rfl (Or.inl rfl))
 (pss_one (ps_if (pt_cmpR (notInK K) (pe_ix ix_tup (pv 11) (pv 10) (fun _ _ => rfl)) (pv 9) rfl)
 (pss_one (ps_expr (pe_bm PySem.F.plainAttrs_list PySem.F.slot_list_append PySem.F.type_list_append mt_append (pv 9) (pa_cons (pe_ix ix_tup (pv 11) (pv 10) (fun _ _ => rfl)) pa_nil))))
 pss_nil)))))
 (pss_cons (ps_if (PW.pt (pw_or (pt_cmpR (op_neD hr.units) (pe_call G_by_rank (hr.mono (by first | decide | omega)) rfl T.g_by_rank T.F_by_rank.kp b_by_rank .nil pass0 (pa_cons (pv 3) pa_nil)) (pe_callTy RU.call_tupS rfl T.n_tuple (by decide +kernel) (pa_cons (pv 9) pa_nil)) (nomark _)) (pw_or1 (pt_cmpR op_ne (pe_callB call_len_seq rfl T.n_len PySem.boot_len (pa_cons (pv 9) pa_nil)) (pe_op op_add (pe_callB call_len_seq rfl T.n_len PySem.boot_len (pa_cons (pe_ix ix_tup (pv 3) pe_int (fun _ _ => rfl)) pa_nil)) pe_int) (nomark _)))))
 (pss_one (ps_ret pe_bl))
 pss_nil)
 (pss_one (ps_if (pt_cmpR op_ne (RZ.pe_lenSetI rfl T.n_len rfl T.n_set (pe_lc (own := [("way", 11)]) (g := gName 11) (tt := tYes) rfl sc_law.nd (pi_list (pv 6)) (blkOk_by (own := [("way", 11)]) (N := ["script", "k", "pot", "tree", "keys", "key", "ways", "ahead", "here", "order", "level", "way"]) (sc := defScope s_law) (by decide +kernel)) (fun _ _ _ _ _ => (pg_name (i := 11) sc_law.nd rfl (Or.inl rfl))) (fun _ _ _ _ _ => pts_nil) (fun _ _ _ _ _ => (pe_ix (ixt K) (pv 11) (pe_un un_neg pe_int) (fun _ _ => rfl))))) (pe_callB call_len_seq rfl T.n_len PySem.boot_len (pa_cons (pv 6) pa_nil)) (nomark _))
 (pss_one (ps_ret pe_bl))
 pss_nil)))))))))))
 (pss_one (ps_ret pe_bl))), ?_⟩
    refine ⟨_, rfl, a, _, rfl, .inl hS, _, _, rfl, _, _, rfl, rfl, _, rfl, ?_, ?_, ?_⟩
    · split <;> omega
    · split <;> omega
    have ht : ∀ i : Nat, i < ((if (63 : Int) < ((List.map V.int ns).length : Int) then 63 else ((List.map V.int ns).length : Int)) + 1 : Int).toNat → i ≤ 1000 := by
      intro i hi
      split at hi <;> omega
    refine for_range (fun i σ H' => ∃ v1 v2 v3 v4 v5 v6 v7 v8 v9 va vb, σ = [some (.ref a), v1, v2, v3, v4, v5, v6, v7, v8, v9, va, vb] ∧ Same H H') ⟨_, _, _, _, _, _, _, _, _, _, _, rfl, Same.refl H⟩ ?_ ?_
    · rintro i σ H1 hi ⟨v1, v2, v3, v4, v5, v6, v7, v8, v9, va, vb, rfl, s1⟩
      have hi4 : i ≤ 1000 := ht i hi
      refine ⟨_, rfl, _, rfl, a, ns, i, by rw [Int.zero_add]; rfl, s1.seq hS, hi4, fun H2 p s2 np hp => ?_⟩
      have npH : H p = none := Same.free s1 np
      refine ⟨_, rfl, _, rfl, p, i, 0, by rw [Int.zero_add]; rfl, hp, by decide, fun H3 v room l t S b3 hp3 hl hsnd => ?_⟩
      have s3 : Same H H3 := same_but (s1.trans s2) npH b3
      have hT := hsnd.tree
      have W := wysT hT
      obtain ⟨few, plen⟩ := paths_few hT
      obtain ⟨at', ev⟩ : ∃ x, v = .ref x := by
        obtain ⟨x, _, _, _, e, _⟩ := hsnd.at_
        exact ⟨x, e⟩
      subst ev
      refine ⟨_, rfl, .ref at', room, l, t, S, rfl, hsnd, by omega, W.rise, fun H4 kk s4 nk hk => ?_⟩
      refine ⟨by show 1 ≤ sizeLine; decide, fun z H5 s5 nz hz => ⟨_, rfl, z, kk, _, _, rfl, rfl, hz, s5 _ _ hk, ?_, fun e H6 s6 ne he => ⟨e, rfl, ⟨_, SqL.of he⟩, fun L hL => ?_⟩⟩⟩
      · rw [List.length_map]
        exact Nat.le_trans (by show 1 + _ ≤ 1000; omega) (by decide)
      have s36 := (s4.trans s5).trans s6
      have hA6 := hsnd.at_.same s36
      have hp6 := hp3.same s36
      have hk6 := (s5.trans s6) _ _ hk
      have npk : kk ≠ p := (hp3.ne nk).symm
      have npL : L ≠ p := (hp6.ne hL).symm
      have kr : ∀ k ∈ (0 :: bks l t), 0 ≤ k ∧ k ≤ 1000000000 := fun k hk => by
        rcases List.mem_cons.mp hk with rfl | hk
        · exact ⟨by decide, by decide⟩
        · have := W.bound k hk
          omega
      refine lc_it (walk_list (xs := (0 :: bks l t).map V.int)) (fun j H' => Same H6 H' ∧ ∃ xs, H' L = some (.lst xs) ∧ xs.length = j ∧ Paired (WyAt H') xs ((paths l t).take j)) ⟨same_new hL, [], upd_same, rfl, .nil⟩ (fun j H' _ z => SqL.of (z.1 _ _ he)) ?_ ?_
      · rintro j x Ha Hb hj ⟨sa, xs, hLa, ej, hpx⟩ ⟨rfl, hx⟩
        obtain ⟨k, hk', rfl⟩ := map_at hx
        have k01 := kr k (List.mem_of_getElem? hk')
        have hw := ways_at hT hk'
        refine ⟨rfl, ?_⟩
        dsimp only [tYes]
        rw [if_pos rfl]
        refine ⟨_, rfl, _, rfl, .ref at', k, room, l, t, S, rfl, ⟨hT, hA6.same sa⟩, k01.1, k01.2, by omega, fun Hc r sc hr => ?_⟩
        have hLc := sc _ _ hLa
        have kc : Keep Hc (upd Hc L (.lst (xs ++ [.ref r]))) := (Keep.refl _).upd fun zs e => by rw [hLc] at e; cases e; rfl
        refine ⟨xs, hLc, ?_, same_upd (sa.trans sc) hL, xs ++ [.ref r], upd_same, by rw [List.length_append, ej]; rfl, ?_⟩
        · rw [ej]
          exact Nat.lt_of_le_of_lt (by have := (List.getElem?_eq_some_iff.mp hw).1; omega : _ ≤ 1000) (by decide)
        · rw [take_more hw]
          exact paired_snoc ⟨r, rfl, FzT.keep kc hr⟩ (paired_imp (fun _ _ r' => WyAt.keep ((Keep.of sc).trans kc) r') hpx)
      · rintro H7 ⟨s7, xs, hL7, ej, hpx⟩
        rw [List.length_map, List.length_cons] at ej
        rw [List.take_of_length_le (by rw [List.length_map, List.length_cons]; omega)] at hpx
        refine ⟨_, rfl, _, rfl, _, rfl, 1, rfl, L, xs, rfl, SqL.of hL7, fun c H8 s8 nc hc => ?_⟩
        rw [show (1 : Int) = ((1 : Nat) : Int) from rfl, cut_from'] at hc
        have npc : c ≠ p := ((hp6.same s7).ne nc).symm
        have s68 := s7.trans s8
        have hA8 := hA6.same s68
        have hp8 := hp6.same s68
        have hk8 := s68 _ _ hk6
        have hL8 := s8 _ _ hL7
        have hpx8 := paired_imp (fun _ _ r' => WyAt.keep (Keep.of s8) r') hpx
        have sH8 : Same H H8 := s3.trans (s36.trans s68)
        refine ⟨kk, L, c, _, xs, _, rfl, SqL.of hk8, SqL.of hL8, SqL.of hc, ?_⟩
        have lz : (bks l t).length = min (min ((bks l t).map V.int).length xs.length) (xs.drop 1).length := by
          rw [List.length_map, List.length_drop]
          omega
        refine for_it (RU.walk_zipLLL lz) (fun j σ H' => ∃ v5 v7 v8, σ = [some (.ref a), some (.int (0 + (i : Nat))), some (.ref p), some (.ref at'), some (.ref kk), v5, some (.ref L), v7, v8, v9, va, vb] ∧ But p H8 H' ∧ PotOk H' p (300000 + (j : Int))) ⟨_, _, _, rfl, But.refl p H8, hp8.le (by omega)⟩ (fun j σ H' _ z => by obtain ⟨_, _, _, _, f, _⟩ := z; exact ⟨SqL.of (f _ _ npk hk8), SqL.of (f _ _ npL hL8), SqL.of (f _ _ npc hc)⟩) ?_ ?_
        · rintro j x0 σ H9 H10 hj ⟨v5, v7, v8, rfl, b9, hp9⟩ ⟨tz, x1, x2, x3, rfl, htz, rfl, g1, g2, g3⟩
          obtain ⟨key, hkey, rfl⟩ := map_at g1
          replace g3 : (xs.drop 1)[j]? = some x3 := g3
          rw [List.getElem?_drop, Nat.add_comm] at g3
          obtain ⟨pa, hpa, a1, rfl, ha1⟩ := pget1 hpx8 g2
          obtain ⟨pb, hpb, a2, rfl, ha2⟩ := pget1 hpx8 g3
          obtain ⟨pa', pb', e1, e2, adj⟩ := (psOk hT.laid hT.keyOk).nb j key hkey
          rw [hpa] at e1
          rw [hpb] at e2
          cases e1
          cases e2
          have sz : Same H9 (upd H9 tz (.tup [.int key, .ref a1, .ref a2])) := same_new htz
          have htz' : upd H9 tz (.tup [.int key, .ref a1, .ref a2]) tz = some (.tup [.int key, .ref a1, .ref a2]) := upd_same
          generalize upd H9 tz (.tup [.int key, .ref a1, .ref a2]) = H10 at sz htz'
          have k8 : Keep H8 H10 := (hp8.keep b9).trans (Keep.of sz)
          have hA10 := (hA8.but b9 hp8).same sz
          have hp10 := hp9.same sz
          obtain ⟨at2, b, o, ys, ev, hat, hb, ho, hy⟩ := id hA10
          cases ev
          have ndS : (S.map (·.1)).Nodup := hT.perm.nodup_iff.mpr hT.nodup
          obtain ⟨ps, kvs, e, p1, p2, p3⟩ := num_pairs (K := K) hy
          subst e
          refine ⟨tz, _, rfl, SqT.of htz', rfl, _, _, rfl, _, _, rfl, _, _, rfl, rfl, ?_⟩
          refine ⟨_, rfl, at', _, 2, _, rfl, rfl, SqT.of hat, rfl, b, o, ps, kvs, rfl, hb, ho, p1, fun d hd0 => ?_⟩
          obtain ⟨sd, hd⟩ := pages_dict p2 p3 ndS hd0
          generalize upd H10 d (.dK (mergeK [] kvs)) = H11 at sd hd
          have k11 := k8.trans (Keep.of sd)
          have subq := path_sub pb (List.mem_of_getElem? hpb)
          have lenq : pb.length ≤ 1000 := Nat.le_trans subq.length_le hT.few
          refine ⟨_, rfl, _, rfl, _, rfl, d, a1, a2, S, key, pa, pb, rfl, hd, FzT.sq (FzT.keep k11 ha1), FzT.keep k11 ha2, adjI adj, hT.nodup.sublist subq, node_nd_all hT, lenq, fun H12 s12 => ⟨_, rfl, iteF ?_⟩⟩
          have sd12 := sd.trans s12
          have hp12 := hp10.same sd12
          have k12 := k11.trans (Keep.of s12)
          have b12 : But p H8 H12 := But.trans b9 (But.of (sz.trans sd12))
          have hA12 := hA10.same sd12
          refine ⟨_, rfl, p, 3, _, rfl, by decide, by decide, hp12, by omega, fun H13 u b13 hp13 l1 u1 => ⟨rfl, _, rfl, ?_⟩⟩
          have b83 : But p H8 H13 := But.trans b12 b13
          by_cases c0 : u = 0
          · subst c0
            have kb := W.bound key (List.mem_of_getElem? hkey)
            have hA13 := hA12.but b13 hp12
            refine (congrArg (fun b => (if b = true then _ else _)) (decide_eq_true rfl : decide (V.int 0 = V.int 0) = true)).mpr (iteT ?_)
            refine ⟨_, rfl, _, rfl, _, _, rfl, rfl, .ref at', key - 1, room, l, t, S, rfl, ⟨hT, hA13⟩, by omega, by omega, by omega, fun H14 r s14 hr => ?_⟩
            have hpv := prev_at hT hkey
            rw [hpa] at hpv
            rw [← Option.some.inj hpv] at hr
            have ha14 := FzT.keep ((hp8.keep b83).trans (Keep.of s14)) ha1
            refine ⟨_, rfl, .tuple (pa.map PyData.int), .tuple (pa.map PyData.int), .tup (FzT.sq hr) (dpa_ints _), .tup (FzT.sq ha14) (dpa_ints _), shaped_tints _, shaped_tints _, _, rfl, ?_⟩
            rw [eqv_tints, decide_eq_true rfl]
            exact iteF ⟨_, _, _, rfl, But.trans b83 (But.of s14), (hp13.same s14).le (by omega)⟩
          · refine (congrArg (fun b => (if b = true then _ else _)) (decide_eq_false (fun e => c0 (by injection e)) : decide (V.int u = V.int 0) = false)).mpr (iteF ?_)
            exact ⟨_, _, _, rfl, b83, hp13.le (by omega)⟩
        · rintro σ H9 ⟨v5, v7, v8, rfl, b9, hp9⟩
          refine ⟨by show 1 ≤ sizeLine; decide, fun O H10 s10 nO hO => ?_⟩
          have nOp : O ≠ p := (hp9.ne nO).symm
          have hA10 := (hA8.but b9 hp8).same s10
          have hL10 := s10 _ _ (b9 _ _ npL hL8)
          have k810 : Keep H8 H10 := (hp8.keep b9).trans (Keep.of s10)
          have hpx10 := paired_imp (fun _ _ r' => WyAt.keep k810 r') hpx8
          have sH10 : Same H H10 := (same_but sH8 npH b9).trans s10
          refine ⟨_, rfl, .ref at', room, l, t, S, rfl, ⟨hT, hA10⟩, by omega, fun H11 s11 => ⟨((l + 1 : Nat) : Int), rfl, by omega, by omega, ?_⟩⟩
          have hA11 := hA10.same s11
          have hL11 := s11 _ _ hL10
          have hO11 := s11 _ _ hO
          have hpx11 := paired_imp (fun _ _ r' => WyAt.keep (Keep.of s11) r') hpx10
          have nLO : L ≠ O := ne_of_none (b9 _ _ npL hL8) nO
          have kO : ∀ {H' : Hp}, But O H11 H' → Keep H11 H' := fun b => Keep.but b fun u e => by rw [hO11] at e; cases e; rfl
          have rowsP : (rows l [t]).flatten.Perm (nums l t) := by
            have z := rows_perm [t]
            rw [List.flatMap_cons, List.flatMap_nil, List.append_nil] at z
            exact z
          have ndR : (0 :: (rows l [t]).flatten).Nodup := List.nodup_cons.mpr ⟨fun m => by have := (hT.range 0 (rowsP.mem_iff.mp m)).1; omega, rowsP.nodup_iff.mpr hT.nodup⟩
          have fewR : (rows l [t]).flatten.length ≤ 1000 := by rw [rowsP.length_eq]; exact hT.few
          have colR : ∀ j, j ≤ l → (rows l [t])[j]? = some (colAt j l t) := fun j hj => by
            rw [rows_col j hj, List.flatMap_cons, List.flatMap_nil, List.append_nil]
          refine for_range (n := l + 1) (fun j σ H' => ∃ va vb, σ = [some (.ref a), some (.int (0 + (i : Nat))), some (.ref p), some (.ref at'), some (.ref kk), v5, some (.ref L), v7, v8, some (.ref O), va, vb] ∧ But O H11 H' ∧ H' O = some (.lst ((0 :: ((rows l [t]).take j).flatten).map V.int))) ⟨_, _, rfl, But.refl O H11, hO11⟩ ?_ ?_
          · rintro j σ H12 hj ⟨va, vb, rfl, b12, hO12⟩
            have hcol := colR j (by omega)
            have partR : ((rows l [t]).take (j + 1)).flatten = ((rows l [t]).take j).flatten ++ colAt j l t := by
              rw [take_more hcol, List.flatten_append, List.flatten_cons, List.flatten_nil, List.append_nil]
            have ndj : ((0 :: ((rows l [t]).take j).flatten) ++ colAt j l t).Nodup := by
              refine ndR.sublist ?_
              rw [List.cons_append, ← partR]
              refine List.Sublist.cons₂ _ ?_
              conv => rhs; rw [← List.take_append_drop (j + 1) (rows l [t])]
              rw [List.flatten_append]
              exact List.sublist_append_left ..
            have lenj : (0 :: ((rows l [t]).take j).flatten).length ≤ 1001 := by
              have z : (((rows l [t]).take j).flatten).length ≤ (rows l [t]).flatten.length := by
                conv => rhs; rw [← List.take_append_drop j (rows l [t])]
                rw [List.flatten_append, List.length_append]
                omega
              rw [List.length_cons]
              omega
            have ddj := dd_col hT.laid hT.keyOk (by omega : j ≤ l) ndj
            generalize hOj : (0 :: ((rows l [t]).take j).flatten) = oj at hO12 ndj lenj ddj
            have hL12 := b12 _ _ nLO hL11
            refine ⟨_, rfl, L, rfl, ⟨_, SqL.of hL12⟩, ?_⟩
            refine for_list (xs := xs) (fun m σ H' => ∃ vb, σ = [some (.ref a), some (.int (0 + (i : Nat))), some (.ref p), some (.ref at'), some (.ref kk), v5, some (.ref L), v7, v8, some (.ref O), some (.int (0 + (j : Nat))), vb] ∧ But O H11 H' ∧ H' O = some (.lst ((dd oj (((paths l t).take m).map fun p => p.getD j 0)).map V.int))) ⟨_, rfl, b12, hO12⟩ (fun m σ H' _ z => by obtain ⟨_, _, f, _⟩ := z; exact SqL.of (f _ _ nLO hL11)) ?_ ?_
            · rintro m x σ H13 hxm ⟨vb, rfl, b13, hO13⟩
              obtain ⟨pm, hpm, a1, rfl, ha1⟩ := pget1 hpx11 hxm
              have ha13 := FzT.keep (kO b13) ha1
              have lpm := ((psOk hT.laid hT.keyOk).heads pm (List.mem_of_getElem? hpm)).1
              have hwj : pm[j]? = some (pm.getD j 0) := by
                rw [List.getD_eq_getElem?_getD, List.getElem?_eq_getElem (by omega)]
                rfl
              have hstep : dd oj (((paths l t).take (m + 1)).map fun p => p.getD j 0) = if pm.getD j 0 ∈ dd oj (((paths l t).take m).map fun p => p.getD j 0) then dd oj (((paths l t).take m).map fun p => p.getD j 0) else dd oj (((paths l t).take m).map fun p => p.getD j 0) ++ [pm.getD j 0] := by
                rw [take_more hpm, List.map_append]
                exact dd_snoc
              have lenm := dd_len (o := oj) (xs := ((paths l t).take m).map fun p => p.getD j 0)
              rw [List.length_map, List.length_take] at lenm
              generalize pm.getD j 0 = wj at hwj hstep
              generalize dd oj (((paths l t).take m).map fun p => p.getD j 0) = om at hO13 hstep lenm
              have hat : atI (pm.map V.int) (0 + (j : Int)) = some (.int wj) := HX.at_of (int_at hwj) (by omega)
              refine ⟨_, rfl, _, rfl, a1, _, _, _, rfl, rfl, FzT.sq ha13, hat, _, rfl, O, _, rfl, .inl (SqL.of hO13), rfl, flat_ints _, _, rfl, ?_⟩
              rw [inV_ints]
              by_cases cm : wj ∈ om
              · rw [decide_eq_true cm]
                refine iteF ⟨_, rfl, b13, ?_⟩
                rw [hstep, if_pos cm]
                exact hO13
              · rw [decide_eq_false cm]
                refine iteT ⟨_, rfl, .inl ⟨rfl, _, SqL.of hO13⟩, _, rfl, _, rfl, a1, _, _, _, rfl, rfl, FzT.sq ha13, hat, O, _, _, rfl, rfl, hO13, ?_, _, rfl, b13.upd, ?_⟩
                · rw [List.length_map]
                  exact Nat.lt_of_le_of_lt (by omega : _ ≤ 2001) (by decide)
                · rw [upd_same, hstep, if_neg cm, List.map_append]
                  rfl
            · rintro σ H13 ⟨vb, rfl, b13, hO13⟩
              rw [hpx11.length, List.take_length, ddj] at hO13
              refine ⟨_, _, rfl, b13, ?_⟩
              rw [partR, ← List.cons_append, hOj]
              exact hO13
          · rintro σ H12 ⟨va, vb, rfl, b12, hO12⟩
            have erw : (rows l [t]).length = l + 1 := rows_len _
            rw [← erw, List.take_length] at hO12
            have hA12 : TreeAt H12 (.ref at') room (num l t) S := by
              obtain ⟨a', b', o', x', e0, e1, e2, e3, e4⟩ := hA11
              exact ⟨a', b', o', x', e0, kO b12 _ _ e1, (kO b12).frz e2, e3, paired_imp (fun _ _ r => NumAt.keep (kO b12) r) e4⟩
            have hL12 := b12 _ _ nLO hL11
            have hpx12 := paired_imp (fun _ _ r' => WyAt.keep (kO b12) r') hpx11
            have nHO : H O = none := Same.free (same_but sH8 npH b9) nO
            have sH12 : Same H H12 := same_but (sH10.trans s11) nHO b12
            have snd12 : SndAt H12 (.ref at') room l t S := ⟨hT, hA12⟩
            refine ⟨_, rfl, .ref at', room, l, t, S, rfl, snd12, by omega, fun H13 r s13 hr => ⟨_, rfl, O, _, rfl, SqL.of (s13 _ _ hO12), fun c' H14 s14 nc' hc' => ?_⟩⟩
            refine ⟨.tuple ((0 :: (rows l [t]).flatten).map PyData.int), .tuple ((0 :: (rows l [t]).flatten).map PyData.int), .tup (FzT.sq (FzT.same s14 hr)) (dpa_ints _), .tup (FzT.sq hc') (dpa_ints (0 :: (rows l [t]).flatten)), shaped_tints _, shaped_tints _, _, rfl, ?_⟩
            rw [eqv_tints, decide_eq_true rfl]
            have s124 := s13.trans s14
            have hA14 := hA12.same s124
            obtain ⟨at2, b, o, ys, ev, hat, hb, ho, hy⟩ := id hA14
            cases ev
            have lenO : ((0 :: (rows l [t]).flatten).map V.int).length = ys.length + 1 := by
              have z := hT.perm.length_eq
              rw [List.length_map] at z
              rw [List.length_map, List.length_cons, rowsP.length_eq, hy.length, z]
            refine iteF ⟨_, rfl, O, _, rfl, .inl (SqL.of (s124 _ _ hO12)), _, rfl, at', _, 2, _, rfl, rfl, SqT.of hat, rfl, b, _, rfl, .inr (sqF hb), _, _, rfl, rfl, rfl, _, rfl, ?_⟩
            rw [lenO]
            have en : ∀ v : V, (!decide (v = v)) = false := fun v => by rw [decide_eq_true rfl]; rfl
            refine (congrArg (fun b => (if b = true then _ else _)) (en (.int ((ys.length + 1 : Nat) : Int)) : (!decide (V.int ((ys.length + 1 : Nat) : Int) = V.int ((ys.length : Int) + 1))) = false)).mpr (iteF ?_)
            have hL14 := s124 _ _ hL12
            have hpx14 := paired_imp (fun _ _ r' => WyAt.keep (Keep.of s124) r') hpx12
            refine ⟨_, rfl, L, rfl, ⟨_, SqL.of hL14⟩, fun M hM => ?_⟩
            have xlen : xs.length = (paths l t).length := hpx14.length
            refine lc_it (walk_list (xs := xs)) (fun j H' => Same H14 H' ∧ H' M = some (.lst ((((paths l t).take j).map fun p => p.getD l 0).map V.int))) ⟨same_new hM, upd_same⟩ (fun j H' _ z => SqL.of (z.1 _ _ hL14)) ?_ ?_
            · rintro j x Ha Hb hj ⟨sa, hMa⟩ ⟨rfl, hx⟩
              obtain ⟨pm, hpm, a1, rfl, ha1⟩ := pget1 hpx14 hx
              have lpm := ((psOk hT.laid hT.keyOk).heads pm (List.mem_of_getElem? hpm)).1
              have hlast : pm.getLast? = some (pm.getD l 0) := by
                rw [List.getLast?_eq_getElem?, lpm, Nat.add_sub_cancel, List.getD_eq_getElem?_getD, List.getElem?_eq_getElem (by omega)]
                rfl
              refine ⟨rfl, ?_⟩
              dsimp only [tYes]
              rw [if_pos rfl]
              refine ⟨_, rfl, 1, rfl, a1, _, _, _, rfl, rfl, FzT.sq (FzT.same sa ha1), last_at12 hlast, _, hMa, ?_, same_upd sa hM, ?_⟩
              · rw [List.length_map, List.length_map, List.length_take]
                exact Nat.lt_of_le_of_lt (by omega : _ ≤ 1000) (by decide)
              · rw [upd_same, take_more hpm]
                simp only [List.map_append, List.map_cons, List.map_nil]
            · rintro H15 ⟨s15, hM15⟩
              rw [List.take_of_length_le (by rw [xlen]; exact Nat.le_refl _), leaf_col] at hM15
              have lvp : (lvs l t).length = xs.length := by rw [xlen, ← leaf_col (t := t), List.length_map]
              refine ⟨M, lvs l t, rfl, SqL.of hM15, hT.nodup.sublist lvs_sub, by omega, _, rfl, L, _, rfl, .inl (SqL.of (s15 _ _ hL14)), rfl, _, rfl, ?_⟩
              rw [lvp, en]
              refine iteF ⟨_, _, _, _, _, _, _, _, _, _, _, rfl, (sH12.trans s124).trans s15⟩
    · rintro σ H1 ⟨v1, v2, v3, v4, v5, v6, v7, v8, v9, va, vb, rfl, s1⟩
      exact kq H1
end
end K12

namespace K12
open PySem PySem.Spec PyProof.Rows L2 RZ HX
def d_wall : He.DefD := ⟨("_wall", none), "_wall", "_wall", defArgs s_wall, defBody s_wall, defScope s_wall, [], []⟩
def d_is_whole : He.DefD := ⟨("is_whole", none), "is_whole", "is_whole", defArgs s_is_whole, defBody s_is_whole, defScope s_is_whole, [], []⟩
def d_is_between : He.DefD := ⟨("is_between", none), "is_between", "is_between", defArgs s_is_between, defBody s_is_between, defScope s_is_between, [], []⟩
def d_is_row : He.DefD := ⟨("is_row", none), "is_row", "is_row", defArgs s_is_row, defBody s_is_row, defScope s_is_row, [], []⟩
def d_is_key : He.DefD := ⟨("is_key", none), "is_key", "is_key", defArgs s_is_key, defBody s_is_key, defScope s_is_key, [], []⟩
def d_is_value : He.DefD := ⟨("is_value", none), "is_value", "is_value", defArgs s_is_value, defBody s_is_value, defScope s_is_value, [], []⟩
def d_is_room : He.DefD := ⟨("is_room", none), "is_room", "is_room", defArgs s_is_room, defBody s_is_room, defScope s_is_room, [], []⟩
def d_half_of : He.DefD := ⟨("half_of", none), "half_of", "half_of", defArgs s_half_of, defBody s_half_of, defScope s_half_of, [], []⟩
def d_is_pair : He.DefD := ⟨("is_pair", none), "is_pair", "is_pair", defArgs s_is_pair, defBody s_is_pair, defScope s_is_pair, [], []⟩
def d_are_pairs : He.DefD := ⟨("are_pairs", none), "are_pairs", "are_pairs", defArgs s_are_pairs, defBody s_are_pairs, defScope s_are_pairs, [], []⟩
def d_are_rising : He.DefD := ⟨("are_rising", none), "are_rising", "are_rising", defArgs s_are_rising, defBody s_are_rising, defScope s_are_rising, [], []⟩
def d_are_rising_pairs : He.DefD := ⟨("are_rising_pairs", none), "are_rising_pairs", "are_rising_pairs", defArgs s_are_rising_pairs, defBody s_are_rising_pairs, defScope s_are_rising_pairs, [], []⟩
def d_is_page_number : He.DefD := ⟨("is_page_number", none), "is_page_number", "is_page_number", defArgs s_is_page_number, defBody s_is_page_number, defScope s_is_page_number, [], []⟩
def d_is_leaf : He.DefD := ⟨("is_leaf", none), "is_leaf", "is_leaf", defArgs s_is_leaf, defBody s_is_leaf, defScope s_is_leaf, [], []⟩
def d_is_node : He.DefD := ⟨("is_node", none), "is_node", "is_node", defArgs s_is_node, defBody s_is_node, defScope s_is_node, [], []⟩
def d_is_page : He.DefD := ⟨("is_page", none), "is_page", "is_page", defArgs s_is_page, defBody s_is_page, defScope s_is_page, [], []⟩
def d_parts_of : He.DefD := ⟨("parts_of", none), "parts_of", "parts_of", defArgs s_parts_of, defBody s_parts_of, defScope s_parts_of, [], []⟩
def d_kid_place : He.DefD := ⟨("kid_place", none), "kid_place", "kid_place", defArgs s_kid_place, defBody s_kid_place, defScope s_kid_place, [], []⟩
def d_Book_init : He.DefD := ⟨("Book", some "__init__"), "__init__", "Book.__init__", defArgs s_Book_init, defBody s_Book_init, defScope s_Book_init, [], []⟩
def d_Book_way : He.DefD := ⟨("Book", some "way"), "way", "Book.way", defArgs s_Book_way, defBody s_Book_way, defScope s_Book_way, [], []⟩
def d_is_numbered_page : He.DefD := ⟨("is_numbered_page", none), "is_numbered_page", "is_numbered_page", defArgs s_is_numbered_page, defBody s_is_numbered_page, defScope s_is_numbered_page, [], []⟩
def d_are_numbered_pages : He.DefD := ⟨("are_numbered_pages", none), "are_numbered_pages", "are_numbered_pages", defArgs s_are_numbered_pages, defBody s_are_numbered_pages, defScope s_are_numbered_pages, [], []⟩
def d_levels_from : He.DefD := ⟨("levels_from", none), "levels_from", "levels_from", defArgs s_levels_from, defBody s_levels_from, defScope s_levels_from, [], []⟩
def d_sizes_fit : He.DefD := ⟨("sizes_fit", none), "sizes_fit", "sizes_fit", defArgs s_sizes_fit, defBody s_sizes_fit, defScope s_sizes_fit, [], []⟩
def d_bounds_of : He.DefD := ⟨("bounds_of", none), "bounds_of", "bounds_of", defArgs s_bounds_of, defBody s_bounds_of, defScope s_bounds_of, [], []⟩
def d_keys_fit : He.DefD := ⟨("keys_fit", none), "keys_fit", "keys_fit", defArgs s_keys_fit, defBody s_keys_fit, defScope s_keys_fit, [], []⟩
def d_nexts_fit : He.DefD := ⟨("nexts_fit", none), "nexts_fit", "nexts_fit", defArgs s_nexts_fit, defBody s_nexts_fit, defScope s_nexts_fit, [], []⟩
def d_is_sound : He.DefD := ⟨("is_sound", none), "is_sound", "is_sound", defArgs s_is_sound, defBody s_is_sound, defScope s_is_sound, [], []⟩
def d_need_key : He.DefD := ⟨("need_key", none), "need_key", "need_key", defArgs s_need_key, defBody s_need_key, defScope s_need_key, [], []⟩
def d_need_tree : He.DefD := ⟨("need_tree", none), "need_tree", "need_tree", defArgs s_need_tree, defBody s_need_tree, defScope s_need_tree, [], []⟩
def d_levels_in : He.DefD := ⟨("levels_in", none), "levels_in", "levels_in", defArgs s_levels_in, defBody s_levels_in, defScope s_levels_in, [], []⟩
def d_height_of : He.DefD := ⟨("height_of", none), "height_of", "height_of", defArgs s_height_of, defBody s_height_of, defScope s_height_of, [], []⟩
def d_by_rank : He.DefD := ⟨("by_rank", none), "by_rank", "by_rank", defArgs s_by_rank, defBody s_by_rank, defScope s_by_rank, [], []⟩
def d_way_to : He.DefD := ⟨("way_to", none), "way_to", "way_to", defArgs s_way_to, defBody s_way_to, defScope s_way_to, [], []⟩
def d_law_pot : He.DefD := ⟨("_law_pot", none), "_law_pot", "_law_pot", defArgs s_law_pot, defBody s_law_pot, defScope s_law_pot, [], []⟩
def d_law_take : He.DefD := ⟨("_law_take", none), "_law_take", "_law_take", defArgs s_law_take, defBody s_law_take, defScope s_law_take, [], []⟩
def d_law_shape : He.DefD := ⟨("_law_shape", none), "_law_shape", "_law_shape", defArgs s_law_shape, defBody s_law_shape, defScope s_law_shape, [], []⟩
def d_law_many : He.DefD := ⟨("_law_many", none), "_law_many", "_law_many", defArgs s_law_many, defBody s_law_many, defScope s_law_many, [], []⟩
def d_law_pages : He.DefD := ⟨("_law_pages", none), "_law_pages", "_law_pages", defArgs s_law_pages, defBody s_law_pages, defScope s_law_pages, [], []⟩
def d_law_pairs : He.DefD := ⟨("_law_pairs", none), "_law_pairs", "_law_pairs", defArgs s_law_pairs, defBody s_law_pairs, defScope s_law_pairs, [], []⟩
def d_law_laid : He.DefD := ⟨("_law_laid", none), "_law_laid", "_law_laid", defArgs s_law_laid, defBody s_law_laid, defScope s_law_laid, [], []⟩
def d_law_leaves : He.DefD := ⟨("_law_leaves", none), "_law_leaves", "_law_leaves", defArgs s_law_leaves, defBody s_law_leaves, defScope s_law_leaves, [], []⟩
def d_law_tree : He.DefD := ⟨("_law_tree", none), "_law_tree", "_law_tree", defArgs s_law_tree, defBody s_law_tree, defScope s_law_tree, [], []⟩
def d_law_world : He.DefD := ⟨("_law_world", none), "_law_world", "_law_world", defArgs s_law_world, defBody s_law_world, defScope s_law_world, [], []⟩
def d_law_node_keys : He.DefD := ⟨("_law_node_keys", none), "_law_node_keys", "_law_node_keys", defArgs s_law_node_keys, defBody s_law_node_keys, defScope s_law_node_keys, [], []⟩
def d_law_parts_right : He.DefD := ⟨("_law_parts_right", none), "_law_parts_right", "_law_parts_right", defArgs s_law_parts_right, defBody s_law_parts_right, defScope s_law_parts_right, [], []⟩
def d_law : He.DefD := ⟨("law", none), "law", "law", defArgs s_law, defBody s_law, defScope s_law, [], []⟩
def fn : List He.DefD := [d_wall, d_is_whole, d_is_between, d_is_row, d_is_key, d_is_value, d_is_room, d_half_of, d_is_pair, d_are_pairs, d_are_rising, d_are_rising_pairs, d_is_page_number, d_is_leaf, d_is_node, d_is_page, d_parts_of, d_kid_place, d_Book_init, d_Book_way, d_is_numbered_page, d_are_numbered_pages, d_levels_from, d_sizes_fit, d_bounds_of, d_keys_fit, d_nexts_fit, d_is_sound, d_need_key, d_need_tree, d_levels_in, d_height_of, d_by_rank, d_way_to, d_law_pot, d_law_take, d_law_shape, d_law_many, d_law_pages, d_law_pairs, d_law_laid, d_law_leaves, d_law_tree, d_law_world, d_law_node_keys, d_law_parts_right, d_law]
def fa : List He.Fa := [.glo "_wall", .glo "is_whole", .glo "is_between", .glo "is_row", .glo "is_key", .glo "is_value", .glo "is_room", .glo "half_of", .glo "is_pair", .glo "are_pairs", .glo "are_rising", .glo "are_rising_pairs", .glo "is_page_number", .glo "is_leaf", .glo "is_node", .glo "is_page", .glo "parts_of", .glo "kid_place", .meth "Book" "way", .glo "is_numbered_page", .glo "are_numbered_pages", .glo "levels_from", .glo "sizes_fit", .glo "bounds_of", .glo "keys_fit", .glo "nexts_fit", .glo "is_sound", .glo "need_key", .glo "need_tree", .glo "levels_in", .glo "height_of", .glo "by_rank", .glo "way_to", .glo "_law_pot", .glo "_law_take", .glo "_law_shape", .glo "_law_many", .glo "_law_pages", .glo "_law_pairs", .glo "_law_laid", .glo "_law_leaves", .glo "_law_tree", .glo "_law_world", .glo "_law_node_keys", .glo "_law_parts_right", .glo "law", .glo "Book", .glo "GroveError", .glo "NoKey", .glo "NoTree", .cls "Book", .mkr "Book", .noat "Book" "room", .noat "Book" "root", .noat "Book" "half", .noat "Book" "pages", .int "GREATEST" 1000000000, .int "LAST_PAGE" 1000000, .int "LEAST_ROOM" 3, .int "GREATEST_ROOM" 8, .free "abs", .free "all", .free "bool", .free "dict", .free "int", .free "isinstance", .free "len", .free "list", .free "min", .free "range", .free "set", .free "sorted", .free "sum", .free "tuple", .free "zip"]
theorem tx {K : PySem.W.Frag} {h : Heap} {mg : Str → Option Value} (X : K.In h) (G : h.Ns mainGlobals mg) (c : He.SaysD fa fn K) : Nonempty (TX K mg) := by
  obtain ⟨fd_wall, F_wall⟩ := c.def_ 0 (d := d_wall) rfl
  obtain ⟨fd_is_whole, F_is_whole⟩ := c.def_ 1 (d := d_is_whole) rfl
  obtain ⟨fd_is_between, F_is_between⟩ := c.def_ 2 (d := d_is_between) rfl
  obtain ⟨fd_is_row, F_is_row⟩ := c.def_ 3 (d := d_is_row) rfl
  obtain ⟨fd_is_key, F_is_key⟩ := c.def_ 4 (d := d_is_key) rfl
  obtain ⟨fd_is_value, F_is_value⟩ := c.def_ 5 (d := d_is_value) rfl
  obtain ⟨fd_is_room, F_is_room⟩ := c.def_ 6 (d := d_is_room) rfl
  obtain ⟨fd_half_of, F_half_of⟩ := c.def_ 7 (d := d_half_of) rfl
  obtain ⟨fd_is_pair, F_is_pair⟩ := c.def_ 8 (d := d_is_pair) rfl
  obtain ⟨fd_are_pairs, F_are_pairs⟩ := c.def_ 9 (d := d_are_pairs) rfl
  obtain ⟨fd_are_rising, F_are_rising⟩ := c.def_ 10 (d := d_are_rising) rfl
  obtain ⟨fd_are_rising_pairs, F_are_rising_pairs⟩ := c.def_ 11 (d := d_are_rising_pairs) rfl
  obtain ⟨fd_is_page_number, F_is_page_number⟩ := c.def_ 12 (d := d_is_page_number) rfl
  obtain ⟨fd_is_leaf, F_is_leaf⟩ := c.def_ 13 (d := d_is_leaf) rfl
  obtain ⟨fd_is_node, F_is_node⟩ := c.def_ 14 (d := d_is_node) rfl
  obtain ⟨fd_is_page, F_is_page⟩ := c.def_ 15 (d := d_is_page) rfl
  obtain ⟨fd_parts_of, F_parts_of⟩ := c.def_ 16 (d := d_parts_of) rfl
  obtain ⟨fd_kid_place, F_kid_place⟩ := c.def_ 17 (d := d_kid_place) rfl
  obtain ⟨fd_Book_init, F_Book_init⟩ := c.def_ 18 (d := d_Book_init) rfl
  obtain ⟨fd_Book_way, F_Book_way⟩ := c.def_ 19 (d := d_Book_way) rfl
  obtain ⟨fd_is_numbered_page, F_is_numbered_page⟩ := c.def_ 20 (d := d_is_numbered_page) rfl
  obtain ⟨fd_are_numbered_pages, F_are_numbered_pages⟩ := c.def_ 21 (d := d_are_numbered_pages) rfl
  obtain ⟨fd_levels_from, F_levels_from⟩ := c.def_ 22 (d := d_levels_from) rfl
  obtain ⟨fd_sizes_fit, F_sizes_fit⟩ := c.def_ 23 (d := d_sizes_fit) rfl
  obtain ⟨fd_bounds_of, F_bounds_of⟩ := c.def_ 24 (d := d_bounds_of) rfl
  obtain ⟨fd_keys_fit, F_keys_fit⟩ := c.def_ 25 (d := d_keys_fit) rfl
  obtain ⟨fd_nexts_fit, F_nexts_fit⟩ := c.def_ 26 (d := d_nexts_fit) rfl
  obtain ⟨fd_is_sound, F_is_sound⟩ := c.def_ 27 (d := d_is_sound) rfl
  obtain ⟨fd_need_key, F_need_key⟩ := c.def_ 28 (d := d_need_key) rfl
  obtain ⟨fd_need_tree, F_need_tree⟩ := c.def_ 29 (d := d_need_tree) rfl
  obtain ⟨fd_levels_in, F_levels_in⟩ := c.def_ 30 (d := d_levels_in) rfl
  obtain ⟨fd_height_of, F_height_of⟩ := c.def_ 31 (d := d_height_of) rfl
  obtain ⟨fd_by_rank, F_by_rank⟩ := c.def_ 32 (d := d_by_rank) rfl
  obtain ⟨fd_way_to, F_way_to⟩ := c.def_ 33 (d := d_way_to) rfl
  obtain ⟨fd_law_pot, F_law_pot⟩ := c.def_ 34 (d := d_law_pot) rfl
  obtain ⟨fd_law_take, F_law_take⟩ := c.def_ 35 (d := d_law_take) rfl
  obtain ⟨fd_law_shape, F_law_shape⟩ := c.def_ 36 (d := d_law_shape) rfl
  obtain ⟨fd_law_many, F_law_many⟩ := c.def_ 37 (d := d_law_many) rfl
  obtain ⟨fd_law_pages, F_law_pages⟩ := c.def_ 38 (d := d_law_pages) rfl
  obtain ⟨fd_law_pairs, F_law_pairs⟩ := c.def_ 39 (d := d_law_pairs) rfl
  obtain ⟨fd_law_laid, F_law_laid⟩ := c.def_ 40 (d := d_law_laid) rfl
  obtain ⟨fd_law_leaves, F_law_leaves⟩ := c.def_ 41 (d := d_law_leaves) rfl
  obtain ⟨fd_law_tree, F_law_tree⟩ := c.def_ 42 (d := d_law_tree) rfl
  obtain ⟨fd_law_world, F_law_world⟩ := c.def_ 43 (d := d_law_world) rfl
  obtain ⟨fd_law_node_keys, F_law_node_keys⟩ := c.def_ 44 (d := d_law_node_keys) rfl
  obtain ⟨fd_law_parts_right, F_law_parts_right⟩ := c.def_ 45 (d := d_law_parts_right) rfl
  obtain ⟨fd_law, F_law⟩ := c.def_ 46 (d := d_law) rfl
  exact ⟨{ fd_wall := fd_wall, F_wall := F_wall, g_wall := He.glo_ok X G (c.fact 0 (f := .glo "_wall") rfl), fd_is_whole := fd_is_whole, F_is_whole := F_is_whole, g_is_whole := He.glo_ok X G (c.fact 1 (f := .glo "is_whole") rfl), fd_is_between := fd_is_between, F_is_between := F_is_between, g_is_between := He.glo_ok X G (c.fact 2 (f := .glo "is_between") rfl), fd_is_row := fd_is_row, F_is_row := F_is_row, g_is_row := He.glo_ok X G (c.fact 3 (f := .glo "is_row") rfl), fd_is_key := fd_is_key, F_is_key := F_is_key, g_is_key := He.glo_ok X G (c.fact 4 (f := .glo "is_key") rfl), fd_is_value := fd_is_value, F_is_value := F_is_value, g_is_value := He.glo_ok X G (c.fact 5 (f := .glo "is_value") rfl), fd_is_room := fd_is_room, F_is_room := F_is_room, g_is_room := He.glo_ok X G (c.fact 6 (f := .glo "is_room") rfl), fd_half_of := fd_half_of, F_half_of := F_half_of, g_half_of := He.glo_ok X G (c.fact 7 (f := .glo "half_of") rfl), fd_is_pair := fd_is_pair, F_is_pair := F_is_pair, g_is_pair := He.glo_ok X G (c.fact 8 (f := .glo "is_pair") rfl), fd_are_pairs := fd_are_pairs, F_are_pairs := F_are_pairs, g_are_pairs := He.glo_ok X G (c.fact 9 (f := .glo "are_pairs") rfl), fd_are_rising := fd_are_rising, F_are_rising := F_are_rising, g_are_rising := He.glo_ok X G (c.fact 10 (f := .glo "are_rising") rfl), fd_are_rising_pairs := fd_are_rising_pairs, F_are_rising_pairs := F_are_rising_pairs, g_are_rising_pairs := He.glo_ok X G (c.fact 11 (f := .glo "are_rising_pairs") rfl), fd_is_page_number := fd_is_page_number, F_is_page_number := F_is_page_number, g_is_page_number := He.glo_ok X G (c.fact 12 (f := .glo "is_page_number") rfl), fd_is_leaf := fd_is_leaf, F_is_leaf := F_is_leaf, g_is_leaf := He.glo_ok X G (c.fact 13 (f := .glo "is_leaf") rfl), fd_is_node := fd_is_node, F_is_node := F_is_node, g_is_node := He.glo_ok X G (c.fact 14 (f := .glo "is_node") rfl), fd_is_page := fd_is_page, F_is_page := F_is_page, g_is_page := He.glo_ok X G (c.fact 15 (f := .glo "is_page") rfl), fd_parts_of := fd_parts_of, F_parts_of := F_parts_of, g_parts_of := He.glo_ok X G (c.fact 16 (f := .glo "parts_of") rfl), fd_kid_place := fd_kid_place, F_kid_place := F_kid_place, g_kid_place := He.glo_ok X G (c.fact 17 (f := .glo "kid_place") rfl), fd_Book_init := fd_Book_init, F_Book_init := F_Book_init, fd_Book_way := fd_Book_way, F_Book_way := F_Book_way, m_Book_way := He.meth_ok (c.fact 18 (f := .meth "Book" "way") rfl), fd_is_numbered_page := fd_is_numbered_page, F_is_numbered_page := F_is_numbered_page, g_is_numbered_page := He.glo_ok X G (c.fact 19 (f := .glo "is_numbered_page") rfl), fd_are_numbered_pages := fd_are_numbered_pages, F_are_numbered_pages := F_are_numbered_pages, g_are_numbered_pages := He.glo_ok X G (c.fact 20 (f := .glo "are_numbered_pages") rfl), fd_levels_from := fd_levels_from, F_levels_from := F_levels_from, g_levels_from := He.glo_ok X G (c.fact 21 (f := .glo "levels_from") rfl), fd_sizes_fit := fd_sizes_fit, F_sizes_fit := F_sizes_fit, g_sizes_fit := He.glo_ok X G (c.fact 22 (f := .glo "sizes_fit") rfl), fd_bounds_of := fd_bounds_of, F_bounds_of := F_bounds_of, g_bounds_of := He.glo_ok X G (c.fact 23 (f := .glo "bounds_of") rfl), fd_keys_fit := fd_keys_fit, F_keys_fit := F_keys_fit, g_keys_fit := He.glo_ok X G (c.fact 24 (f := .glo "keys_fit") rfl), fd_nexts_fit := fd_nexts_fit, F_nexts_fit := F_nexts_fit, g_nexts_fit := He.glo_ok X G (c.fact 25 (f := .glo "nexts_fit") rfl), fd_is_sound := fd_is_sound, F_is_sound := F_is_sound, g_is_sound := He.glo_ok X G (c.fact 26 (f := .glo "is_sound") rfl), fd_need_key := fd_need_key, F_need_key := F_need_key, g_need_key := He.glo_ok X G (c.fact 27 (f := .glo "need_key") rfl), fd_need_tree := fd_need_tree, F_need_tree := F_need_tree, g_need_tree := He.glo_ok X G (c.fact 28 (f := .glo "need_tree") rfl), fd_levels_in := fd_levels_in, F_levels_in := F_levels_in, g_levels_in := He.glo_ok X G (c.fact 29 (f := .glo "levels_in") rfl), fd_height_of := fd_height_of, F_height_of := F_height_of, g_height_of := He.glo_ok X G (c.fact 30 (f := .glo "height_of") rfl), fd_by_rank := fd_by_rank, F_by_rank := F_by_rank, g_by_rank := He.glo_ok X G (c.fact 31 (f := .glo "by_rank") rfl), fd_way_to := fd_way_to, F_way_to := F_way_to, g_way_to := He.glo_ok X G (c.fact 32 (f := .glo "way_to") rfl), fd_law_pot := fd_law_pot, F_law_pot := F_law_pot, g_law_pot := He.glo_ok X G (c.fact 33 (f := .glo "_law_pot") rfl), fd_law_take := fd_law_take, F_law_take := F_law_take, g_law_take := He.glo_ok X G (c.fact 34 (f := .glo "_law_take") rfl), fd_law_shape := fd_law_shape, F_law_shape := F_law_shape, g_law_shape := He.glo_ok X G (c.fact 35 (f := .glo "_law_shape") rfl), fd_law_many := fd_law_many, F_law_many := F_law_many, g_law_many := He.glo_ok X G (c.fact 36 (f := .glo "_law_many") rfl), fd_law_pages := fd_law_pages, F_law_pages := F_law_pages, g_law_pages := He.glo_ok X G (c.fact 37 (f := .glo "_law_pages") rfl), fd_law_pairs := fd_law_pairs, F_law_pairs := F_law_pairs, g_law_pairs := He.glo_ok X G (c.fact 38 (f := .glo "_law_pairs") rfl), fd_law_laid := fd_law_laid, F_law_laid := F_law_laid, g_law_laid := He.glo_ok X G (c.fact 39 (f := .glo "_law_laid") rfl), fd_law_leaves := fd_law_leaves, F_law_leaves := F_law_leaves, g_law_leaves := He.glo_ok X G (c.fact 40 (f := .glo "_law_leaves") rfl), fd_law_tree := fd_law_tree, F_law_tree := F_law_tree, g_law_tree := He.glo_ok X G (c.fact 41 (f := .glo "_law_tree") rfl), fd_law_world := fd_law_world, F_law_world := F_law_world, g_law_world := He.glo_ok X G (c.fact 42 (f := .glo "_law_world") rfl), fd_law_node_keys := fd_law_node_keys, F_law_node_keys := F_law_node_keys, g_law_node_keys := He.glo_ok X G (c.fact 43 (f := .glo "_law_node_keys") rfl), fd_law_parts_right := fd_law_parts_right, F_law_parts_right := F_law_parts_right, g_law_parts_right := He.glo_ok X G (c.fact 44 (f := .glo "_law_parts_right") rfl), fd_law := fd_law, F_law := F_law, g_law := He.glo_ok X G (c.fact 45 (f := .glo "law") rfl), g_Book := He.glo_ok X G (c.fact 46 (f := .glo "Book") rfl), g_GroveError := He.glo_ok X G (c.fact 47 (f := .glo "GroveError") rfl), g_NoKey := He.glo_ok X G (c.fact 48 (f := .glo "NoKey") rfl), g_NoTree := He.glo_ok X G (c.fact 49 (f := .glo "NoTree") rfl), cl_Book := He.cls_ok (c.fact 50 (f := .cls "Book") rfl), mk_Book := He.mkr_ok (c.fact 51 (f := .mkr "Book") rfl), na_Book_room := He.noat_ok (c.fact 52 (f := .noat "Book" "room") rfl), na_Book_root := He.noat_ok (c.fact 53 (f := .noat "Book" "root") rfl), na_Book_half := He.noat_ok (c.fact 54 (f := .noat "Book" "half") rfl), na_Book_pages := He.noat_ok (c.fact 55 (f := .noat "Book" "pages") rfl), g_GREATEST := He.int_ok X G (c.fact 56 (f := .int "GREATEST" 1000000000) rfl), g_LAST_PAGE := He.int_ok X G (c.fact 57 (f := .int "LAST_PAGE" 1000000) rfl), g_LEAST_ROOM := He.int_ok X G (c.fact 58 (f := .int "LEAST_ROOM" 3) rfl), g_GREATEST_ROOM := He.int_ok X G (c.fact 59 (f := .int "GREATEST_ROOM" 8) rfl), n_abs := He.free_ok X G (c.fact 60 (f := .free "abs") rfl), n_all := He.free_ok X G (c.fact 61 (f := .free "all") rfl), n_bool := He.free_ok X G (c.fact 62 (f := .free "bool") rfl), n_dict := He.free_ok X G (c.fact 63 (f := .free "dict") rfl), n_int := He.free_ok X G (c.fact 64 (f := .free "int") rfl), n_isinstance := He.free_ok X G (c.fact 65 (f := .free "isinstance") rfl), n_len := He.free_ok X G (c.fact 66 (f := .free "len") rfl), n_list := He.free_ok X G (c.fact 67 (f := .free "list") rfl), n_min := He.free_ok X G (c.fact 68 (f := .free "min") rfl), n_range := He.free_ok X G (c.fact 69 (f := .free "range") rfl), n_set := He.free_ok X G (c.fact 70 (f := .free "set") rfl), n_sorted := He.free_ok X G (c.fact 71 (f := .free "sorted") rfl), n_sum := He.free_ok X G (c.fact 72 (f := .free "sum") rfl), n_tuple := He.free_ok X G (c.fact 73 (f := .free "tuple") rfl), n_zip := He.free_ok X G (c.fact 74 (f := .free "zip") rfl) }⟩
def loose : List Str := (["_wall", "__name__", "GREATEST", "LAST_PAGE", "LEAST_ROOM", "GREATEST_ROOM", "is_whole", "is_between", "is_row", "is_key", "is_value", "is_room"] : List Str) ++ (["half_of", "is_pair", "are_pairs", "are_rising", "are_rising_pairs", "is_page_number", "is_leaf", "is_node", "is_page", "parts_of", "kid_place", "Book"] : List Str) ++ (["GroveError", "NoKey", "NoTree", "is_numbered_page", "are_numbered_pages", "levels_from", "sizes_fit", "bounds_of", "keys_fit", "nexts_fit", "is_sound", "need_key"] : List Str) ++ (["need_tree", "levels_in", "height_of", "by_rank", "way_to", "_law_pot", "_law_take", "_law_shape", "_law_many", "_law_pages", "_law_pairs", "_law_laid"] : List Str) ++ (["_law_leaves", "_law_tree", "_law_world", "_law_node_keys", "_law_parts_right"] : List Str)
abbrev R : PySem.W.OpenRow := PySem.W.OpenLaw.row PySem.Challenge.rw_latchgrove_k12_whole_ways_by_rank
abbrev hk : PySem.W.Hook := He.hookD 5 fa fn
def ob (s : PySem.W.SharedT) : He.AlD := He.obsDG 5 fa fn (HandSHeadRun.getT s)
theorem ob_eq (s : PySem.W.SharedT) : ob s = hk.obs s.abs := He.obsDG_eq (HandSHeadRun.getT_eq s)
theorem run (w : World) : HandSHeadRun.RunEq R (PySem.W.view R.prog [60]) hk ob 12000 loose w := by
  intro os
  kernel_rfl
end K12

open PySem PySem.W PySem.Calls PyProof.Rows
theorem PySem.Challenge.cw_latchgrove_k12_whole_ways_by_rank_holds : PySem.Challenge.rw_latchgrove_k12_whole_ways_by_rank.Holds := by
  w_on; o_law
  refine HandSHeadRun.head_any (r := OpenLaw.row PySem.Challenge.rw_latchgrove_k12_whole_ways_by_rank) (q := view (OpenLaw.row PySem.Challenge.rw_latchgrove_k12_whole_ways_by_rank).prog [60]) (H := K12.hk) (ob := K12.ob) (M := 12000) (loose := K12.loose) (d := HandSHeadRun.topDef (OpenLaw.row PySem.Challenge.rw_latchgrove_k12_whole_ways_by_rank).prog 60) (kwd := []) K12.ob_eq
    (by kernel_rfl) (fun s => by kernel_rfl) K12.run (by kernel_rfl) (by kernel_rfl) (by kernel_rfl) (by rfl) (by first | assumption | decide +kernel) (by decide +kernel) ⟨rfl, rfl, rfl, rfl, rfl, by decide +kernel⟩ ?hw ?hc
  case hw => w_witness2
  case hc =>
    refine L2.walk_ofE (l := PySem.Challenge.rw_latchgrove_k12_whole_ways_by_rank) (n := 63) (k := 15) (x := "script") (CX := L2.CX0) rfl (by decide) (by kernel_rfl) ⟨rfl, by decide, by decide⟩ ?F (fun _ _ _ _ z => z)
    intro w mg fa h Y G hmg0
    obtain ⟨K, KX, c⟩ := Y
    have hmg : mg ("law" : PySem.Str) = some (.ref fa) := by
      have e : (HandSHeadRun.topDef (OpenLaw.row PySem.Challenge.rw_latchgrove_k12_whole_ways_by_rank).prog 60).name = ("law" : PySem.Str) := by kernel_rfl
      rw [← e]
      exact hmg0
    obtain ⟨T⟩ := K12.tx KX G c
    have e := hmg.symm.trans T.g_law
    cases e
    have b := L2.FunD.bindsA (ps := ["script"]) T.F_law fun _ _ _ _ _ _ us hl => match us, hl with | [_], _ => rfl
    exact ⟨K, T.fd_law, K12.sp_law K, KX, fun s v => b s [v] rfl, fun H a ns hl _ hS => ⟨a, ns, rfl, hS, hl, fun _ => rfl⟩, fun base _ _ => K12.ok_law T⟩

