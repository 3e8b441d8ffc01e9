import PyProof.Rows.All
import Wide.All
import OpenK.AllK
import Wide.FinOn
import KE.KStateDown
import Lean
import HandS.ForMost
import HandS.Wide
import HandS.IsInst
import HandS.Zip
import HandS.Walk
import HandS.Style
import HandS.Defaults
import HandS.MakeKwOnly
import HandS.CallRecv
import HandS.Sort
import HandS.Evl
import HandS.DictTup
import HandS.SortOrd
import HandS.Deep
import HandS.Head0
import HandS.Head1
import HandS.Head2
import HandS.HeadEnd
import HandS.HeadHook1
import HandS.HeadHook2
import HandS.TupAny
import KE.GoesNew
import KE.GoesMore
import HandS.Star
import KE.KDictPairs
import HandS.WordsDict
import HandS.SortRule
import HandS.More
import HandS.Strs
import HandS.SetFor
import HandS.SortInts
import PySem.Challenge.RW_latchgrove_k22_deeds_known
set_option Elab.async false
set_option linter.all false
set_option maxRecDepth 100000
set_option maxHeartbeats 8000000
namespace HX
open PySem PySem.Spec PyProof.Rows L2

/-! ### numbers -/
def CPowW (i j : Int) : Prop := 0 ≤ j ∧ (Builtin.Int.intBits i : Int) * j ≤ 2 ^ 27
section
variable {X : Cx}
theorem op_powW : OpR X (binaryOp .Pow) (rI CPowW fun i j => .int (i ^ j.toNat)) := opI fun _ _ _ _ _ _ _ hc q => pow_int hc.1 hc.2 q
end
theorem intBits_le (x : Int) : Builtin.Int.intBits x ≤ x.natAbs.log2 + 1 := by
  unfold Builtin.Int.intBits
  split <;> omega
theorem powW_of {i j : Int} {a : Nat} (h0 : 0 ≤ j) (ha : i.natAbs < 2 ^ a) (hp : 0 < a) (h : (a : Int) * j ≤ 2 ^ 27) : CPowW i j := by
  refine ⟨h0, ?_⟩
  have x := PySem.Flt.log2_lt_of hp ha
  have y := intBits_le i
  have z : (Builtin.Int.intBits i : Int) ≤ (a : Int) := by omega
  exact Int.le_trans (Int.mul_le_mul_of_nonneg_right z h0) h

/-! ### xs[i] op= e -/
section
variable {X : Cx}
theorem get_list : PGet X (rIxL X.K) := by
  intro pins s σ H o i ov iv Q I rx ry h
  obtain ⟨p, xs, k, z, rfl, rfl, hq, he, q⟩ := h
  cases rx
  obtain ⟨t, rfl⟩ := ry
  obtain ⟨its, r, pl, hz⟩ := I.list hq
  obtain ⟨j, h1, h2, h3, h4, h5⟩ := atI_get he
  obtain ⟨w, ew, rw'⟩ := r.get h2
  have hl := r.length
  have hn := line63
  have fin : EP X pins σ Q w s := ⟨z, H, I, rw', q⟩
  by_cases h0 : 0 ≤ k
  · have hj : k.toNat = j := by
      rw [seqIndex_of h0 h5] at h1
      exact Option.some.inj h1
    exact wpAny_getItem_list pl.isList h0 (by omega) (by rw [hj]; simpa using ew) fin
  · have hj : (k + (its.toArray.size : Int)).toNat = j := by
      rw [seqIndex_neg (by omega) h4] at h1
      rw [List.size_toArray, ← hl]
      exact Option.some.inj h1
    exact wpAny_getItem_list_neg pl.isList (by omega) (by rw [List.size_toArray] <;> omega) (by omega) (by rw [hj]; simpa using ew) fin
end

/-! ### a walk over a range held as a value -/
section
variable {X : Cx} {tg : Expr}
def iRngV (te : TE) : TI := fun σ H R => te σ H fun v H1 => ∃ (a : Addr) (lo hi : Int), v = .ref a ∧ H1 a = some (.rng lo hi) ∧ (-(2 ^ 62) ≤ lo ∧ lo < 2 ^ 62 ∧ -(2 ^ 62) ≤ hi ∧ hi < 2 ^ 62) ∧ R (Itr lo (hi - lo).toNat) H1
theorem pi_rngV {e : Expr} {te : TE} (he : PE X e te) : PI X tg e (iRngV te) := by
  refine ⟨fun pins s σ H R I h => ?_⟩
  refine thn (he.run pins s σ H _ I h) fun u s1 ⟨x, H1, I1, rx, a, lo, hi, ex, ea, ⟨h1, h2, h3, h4⟩, q⟩ => ?_
  subst ex
  obtain rfl : u = Value.ref a := rx
  obtain ⟨t, u, v, ho⟩ := I1.hok _ _ ea
  refine wpAny_pyIter_range ho (small_one h1 h2 h3 h4) ?_
  refine ⟨s1.heap.objs.size, [s1.heap.objs.size], _, _, H1, rfl,
    I1.kept (t' := s1.toks) fun b o e => Heap.get?_push_of_some _ e, turn_range _ lo (hi - lo).toNat, ?_, fun b hb => ?_, q⟩
  · have e1 : lo + ((0 : Nat) : Int) * 1 = lo := by simp
    have e2 : (((hi - lo).toNat : Nat) : Int) - ((0 : Nat) : Int) = Builtin.Range.rangeSize lo hi 1 := by rw [rangeSize_one]; split <;> omega
    show IsRangeIter _ _ (lo + ((0 : Nat) : Int) * 1) ((((hi - lo).toNat : Nat) : Int) - ((0 : Nat) : Int)) 1
    rw [e1, e2]
    exact Heap.get?_push_size _ rfl
  · have e : b = s1.heap.objs.size := by simpa using hb
    subst e
    exact I1.fpOk (Nat.le_refl _) (I1.hok.fresh (Nat.le_refl _))
end

/-! ### heaps -/
theorem same_upd {H H' : Hp} {p : Addr} {o : HO} (s : Same H H') (h : H p = none) : Same H (upd H' p o) := fun b u e => by
  rw [upd_ne (fun z => by rw [z, h] at e; cases e)]
  exact s b u e
theorem same_new {H : Hp} {p : Addr} {o : HO} (h : H p = none) : Same H (upd H p o) := same_upd (Same.refl H) h
/-- all but what stands at p is as it was -/
def But (p : Addr) (H H' : Hp) : Prop := ∀ b o, b ≠ p → H b = some o → H' b = some o
theorem But.refl (p : Addr) (H : Hp) : But p H H := fun _ _ _ h => h
theorem But.trans {p : Addr} {H H1 H2 : Hp} (a : But p H H1) (b : But p H1 H2) : But p H H2 := fun c o n h => b c o n (a c o n h)
theorem But.of {p : Addr} {H H' : Hp} (s : Same H H') : But p H H' := fun b o _ h => s b o h
theorem But.upd {p : Addr} {H H' : Hp} {o : HO} (s : But p H H') : But p H (upd H' p o) := fun b u n e => by
  rw [upd_ne n]
  exact s b u n e
theorem But.new {p q : Addr} {H H' : Hp} {o : HO} (s : But p H H') (h : H' q = none) : But p H (L2.upd H' q o) := fun b u n e => by
  have e' := s b u n e
  rw [upd_ne (ne_of_none e' h)]
  exact e'
theorem But.seq {K : PySem.W.Frag} {H H' : Hp} {p a : Addr} {xs : List V} (e : But p H H') (n : a ≠ p) (h : SqL K H a xs) : SqL K H' a xs := by
  rcases h with (h | ⟨o, h⟩) | h
  · exact .inl (.inl (e _ _ n h))
  · exact .inl (.inr ⟨o, e _ _ n h⟩)
  · exact .inr h

/-! ### names of the module, of built-in classes -/
section
variable {X : Cx} {x : Str} {pos : Pos}
theorem pe_gint {i : Int} (h : ∃ t, X.mg x = some (.int i t)) (hg : Gl X x := by rfl) (hdb : (x == ("__debug__" : Str)) = false := by decide) : PE X (.Name x pos) (tC (.int i)) := by
  obtain ⟨t, ht⟩ := h
  exact pe_glob hg ht ⟨t, rfl⟩ hdb
theorem pe_ty (n : String) (hm : X.mg x = none) (hv : bootBuiltins x = some (.type n)) (hg : Gl X x := by rfl) (hn : x ≠ ("__name__" : Str) := by decide) (hdb : (x == ("__debug__" : Str)) = false := by decide) : PE X (.Name x pos) (tC (.ty n)) := pe_bltn hg hm hv rfl hn hdb
end

/-! ### lists of whole numbers by a function of the place -/
def fl (n : Nat) (f : Nat → Int) : List V := (List.range n).map fun i => V.int (f i)
theorem fl_len (n : Nat) (f : Nat → Int) : (fl n f).length = n := by unfold fl; rw [List.length_map, List.length_range]
theorem fl_get {n : Nat} {f : Nat → Int} {i : Nat} (h : i < n) : (fl n f)[i]? = some (.int (f i)) := by
  unfold fl
  rw [List.getElem?_map, List.getElem?_range h]
  rfl
theorem fl_at {n : Nat} {f : Nat → Int} {i : Nat} (h : i < n) : atI (fl n f) (i : Int) = some (.int (f i)) := atI_nat (fl_get h)
theorem fl_at' {n : Nat} {f : Nat → Int} {i : Int} {k : Nat} (h : k < n) (e : i = (k : Int)) : atI (fl n f) i = some (.int (f k)) := by
  subst e
  exact fl_at h
theorem at_of {α : Type} {xs : List α} {i : Int} {j : Nat} {v : α} (h : xs[j]? = some v) (e : i = (j : Int)) : atI xs i = some v := by
  subst e
  exact atI_nat h
theorem at_last {α : Type} {xs : List α} {n : Nat} {v : α} (hl : xs.length = n + 1) (h : xs[n]? = some v) : atI xs (-1) = some v := by
  have e : ixN xs.length (-1) = some n := by
    unfold ixN
    rw [hl, if_neg (by decide), if_pos (by omega)]
    congr 1
    omega
  unfold atI
  rw [e]
  exact h
theorem fl_congr {n : Nat} {f g : Nat → Int} (h : ∀ i, i < n → f i = g i) : fl n f = fl n g := by
  unfold fl
  exact List.map_congr_left fun i hi => by rw [h i (List.mem_range.mp hi)]
theorem fl_set {n : Nat} {f : Nat → Int} {j : Nat} (v : Int) (h : j < n) : (fl n f).set j (.int v) = fl n (fun i => if i = j then v else f i) := by
  refine List.ext_getElem? fun i => ?_
  by_cases hi : i < n
  · rw [fl_get hi, List.getElem?_set, fl_len]
    by_cases e : j = i
    · subst e
      rw [if_pos rfl, if_pos h, if_pos rfl]
    · rw [if_neg e, fl_get hi, if_neg (fun z => e z.symm)]
  · rw [List.getElem?_eq_none (by rw [List.length_set, fl_len]; omega), List.getElem?_eq_none (by rw [fl_len]; omega)]
theorem fl_rep (n : Nat) (v : Int) : (List.replicate n [V.int v]).flatten = fl n (fun _ => v) := by
  refine List.ext_getElem? fun i => ?_
  have e : (List.replicate n [V.int v]).flatten = List.replicate n (V.int v) := by
    induction n with
    | zero => rfl
    | succ n ih => rw [List.replicate_succ, List.flatten_cons, ih]; rfl
  rw [e]
  by_cases hi : i < n
  · rw [fl_get hi, List.getElem?_replicate, if_pos hi]
  · rw [List.getElem?_eq_none (by rw [List.length_replicate]; omega), List.getElem?_eq_none (by rw [fl_len]; omega)]
theorem fl_snoc (n : Nat) (f : Nat → Int) : fl n f ++ [.int (f n)] = fl (n + 1) f := by
  unfold fl
  rw [List.range_succ, List.map_append]
  rfl
theorem fl_cons (n : Nat) (f : Nat → Int) : V.int (f 0) :: fl n (fun i => f (i + 1)) = fl (n + 1) f := by
  unfold fl
  rw [List.range_succ_eq_map, List.map_cons, List.map_map]
  rfl
theorem ixN_nat {n j : Nat} (h : j < n) : ixN n (j : Int) = some j := by
  unfold ixN
  rw [if_pos (by omega), if_pos (by omega)]
  simp
theorem ixN_nat' {n j : Nat} {i : Int} (h : j < n) (e : i = (j : Int)) : ixN n i = some j := by
  subst e
  exact ixN_nat h
theorem take_more {α : Type} : ∀ {l : List α} {i : Nat} {x : α}, l[i]? = some x → l.take (i + 1) = l.take i ++ [x]
  | [], i, x, h => by simp at h
  | a :: l, 0, x, h => by
    have e : a = x := Option.some.inj h
    subst e
    rfl
  | a :: l, i + 1, x, h => by
    have ih := take_more (l := l) (i := i) (x := x) h
    show a :: l.take (i + 1) = a :: l.take i ++ [x]
    rw [ih]
    rfl
theorem Same.list {H H' : Hp} {a : Addr} {xs : List V} (s : Same H H') (h : H a = some (.lst xs)) : H' a = some (.lst xs) := s _ _ h

/-! ### fields -/
theorem lk_hit (f : Str) (v : V) (fs : List (Str × V)) : (putF f v fs).lookup f = some v := by rw [lookup_putF, if_pos rfl]
theorem lk_miss {f g : Str} (h : ¬ f = g) {v : V} {fs : List (Str × V)} {o : Option V} (q : fs.lookup g = o) : (putF f v fs).lookup g = o := by rw [lookup_putF, if_neg (fun z => h z.symm)]; exact q
theorem putF_len (f : Str) (v : V) : ∀ fs : List (Str × V), (putF f v fs).length ≤ fs.length + 1
  | [] => Nat.le_refl _
  | (g, x) :: r => by
    unfold putF
    split
    · exact Nat.le_succ _
    · exact Nat.succ_le_succ (putF_len f v r)
theorem putF_lt {f : Str} {v : V} {fs : List (Str × V)} {n : Nat} (h : fs.length < n) : (putF f v fs).length < n + 1 := Nat.lt_of_le_of_lt (putF_len f v fs) (Nat.succ_lt_succ h)

/-! ### the same rules with the written part named (for what stands in a comprehension) -/
section
variable {X : Cx}
theorem ixl (K : PySem.W.Frag) (h : X.K = K := by rfl) : IxR X (rIxL K) := by
  subst h
  exact ix_list
theorem ixt (K : PySem.W.Frag) (h : X.K = K := by rfl) : IxR X (rIxT K) := by
  subst h
  exact ix_tup
theorem lenK (K : PySem.W.Frag) (h : X.K = K := by rfl) : CallR X (.builtin "len") (fun xs H Q => ∃ p ys, xs = [.ref p] ∧ (SqL K H p ys ∨ SqT K H p ys) ∧ Q (.int ys.length) H) := by
  subst h
  exact call_len_seq
theorem isiK (K : PySem.W.Frag) (h : X.K = K := by rfl) : CallR X (.builtin "isinstance") (rIsi K) := by
  subst h
  exact call_isi
theorem sllK (K : PySem.W.Frag) (h : X.K = K := by rfl) : SlR X (rSlL K) := by
  subst h
  exact sl_list
theorem pe_fldK (K : PySem.W.Frag) {e : Expr} {f : Str} {pos : Pos} {ta : TE} (he : PE X e ta) (hb : attributeBase e f X.env (eval e X.env) = eval e X.env) (h : X.K = K := by rfl) : PE X (.Attribute e f pos) (tFld K ta f) := by
  subst h
  exact pe_fld he hb
end
end HX

/-! ### sorted(d.items()), d a dict with whole numbers as keys and objects as values -/
namespace HS
open PySem PySem.Spec PyProof.Rows L2
section
variable {X : Cx}
/-- d.items() -/
def rItemsK : V → List V → Hp → VK → Prop := fun x xs H Q => ∃ (a : Addr) (kvs : List (L2.Key × V)), x = .ref a ∧ xs = [] ∧ H a = some (.dK kvs) ∧ ∀ p, H p = none → Q (.ref p) (upd H p (DX.itemsO p a))
theorem mt_itemsK : MtR X "dict.items" rItemsK := by
  intro pins s σ H x xs v us Q I rx rxs h
  obtain ⟨a, kvs, rfl, rfl, ha, q⟩ := h
  cases rx
  cases rxs
  obtain ⟨z, hd, vs, rel, o, es, ep, ho, hx, hdat, _⟩ := dk_of I.hok ha
  refine DT.callItems (es := es) (ep := ep) hd ⟨o, ho, hx, hdat⟩ ?_
  have hf : H s.heap.objs.size = none := I.hok.fresh (Nat.le_refl _)
  exact ⟨.ref s.heap.objs.size, upd H s.heap.objs.size (DX.itemsO s.heap.objs.size a), I.laid (t' := s.toks) (fun b u e => Heap.get?_push_of_some _ e) (Nat.le_refl _) (DX.itemsO_ok (Heap.get?_push_size _ rfl)), rfl, q _ hf⟩
abbrev entK (e : Int × Addr) : L2.Key × V := (Sum.inl e.1, V.ref e.2)
def rSortItK : List V → Hp → VK → Prop := fun vs H Q => ∃ (p a : Addr) (ks : List (Int × Addr)), vs = [.ref p] ∧ H p = some (DX.itemsO p a) ∧ H a = some (.dK (ks.map entK)) ∧
  ∀ (H' : Hp) (l : Addr) (ps : List (Addr × Int × Addr)), (∀ b o, H b = some o → H' b = some o) → H l = none → (ps.map (·.2)).Perm ks → (ps.map (·.2)).Pairwise (fun e f => e.1 < f.1) → H' l = some (.lst (ps.map fun z => V.ref z.1)) →
    (∀ z ∈ ps, H' z.1 = some (.tup [.int z.2.1, .ref z.2.2])) → Q (.ref l) H'
/-- the first item, a whole number, of the tuple that the value stands for -/
def kfI (h : Heap) (v : Value) : Int := match v with
  | .ref b => (match h.get? b with
    | some o => (match o.data with
      | .seq xs _ => (match (xs[0]? : Option Value) with
        | some (Value.int i _) => i
        | _ => 0)
      | _ => 0)
    | _ => 0)
  | _ => 0
theorem kfI_of {h : Heap} {b : Addr} {o : Obj} {i : Int} {t : Tok} {v : Value} {n : Nat} (ho : h.get? b = some o) (hd : o.data = .seq #[.int i t, v] n) : kfI h (.ref b) = i := by
  unfold kfI
  simp only [ho, hd]
  rfl
theorem swo_int (k : Value → Int) : SrtO.Swo fun v u => decide (k v < k u) := by
  refine ⟨fun x y h => ?_, fun x y z h1 h2 => ?_⟩
  · have a := of_decide_eq_true h
    exact decide_eq_false (by omega)
  · have a := of_decide_eq_false h1
    have b := of_decide_eq_false h2
    exact decide_eq_false (by omega)
/-- a pair with a whole number first -/
def IsEnt (h : Heap) (v : Value) (i : Int) : Prop := ∃ (a : Addr) (o : Obj) (t : Tok) (u : Value) (n : Nat), v = .ref a ∧ h.get? a = some o ∧ o.cls = .type "tuple" ∧ o.data = .seq #[.int i t, u] n
theorem firstsE {h : Heap} {k : Value → Int} : ∀ vs : List Value, (∀ v ∈ vs, IsEnt h v (k v)) → ∃ fs : List Value, PySem.W.KatTups h vs fs ∧ fs.length = vs.length ∧ ∀ f ∈ fs, ∃ x t, f = Value.int x t
  | [], _ => ⟨[], PySem.W.KatTups.nil, rfl, fun f hf => nomatch hf⟩
  | v :: vs, x => by
    obtain ⟨fs, k1, hl, hi⟩ := firstsE (h := h) (k := k) vs fun u hu => x u (List.mem_cons_of_mem _ hu)
    obtain ⟨a, o, t, u, n, e, ho, hc, hd⟩ := x v (List.mem_cons_self ..)
    subst e
    refine ⟨.int (k (.ref a)) t :: fs, PySem.W.KatTups.cons ho hc hd rfl k1, congrArg Nat.succ hl, fun f hf => ?_⟩
    rcases List.mem_cons.mp hf with rfl | hf
    · exact ⟨_, _, rfl⟩
    · exact hi f hf
section
variable {prog : Program} {w : World} {A : Around} {s : Shared}
theorem ent_cmp {vs : List Value} {k : Value → Int} (hp : ∀ v ∈ vs, IsEnt s.heap v (k v)) (inj : ∀ v ∈ vs, ∀ u ∈ vs, k v = k u → v = u) : SrtO.Cmp prog w A s (tuples' true) (fun p => p.1 ∈ vs) (SrtO.lt2 fun v u => decide (k v < k u)) := by
  intro p q hm hm'
  have h1 := hp _ hm
  have h2 := hp _ hm'
  have hi := inj _ hm _ hm'
  show wpAny (model prog w) A (keyLt' (tuples' true) p.1 q.1) (fun r s' => s' = s ∧ r = decide (k p.1 < k q.1)) (fun _ _ => False) s
  generalize k p.1 = x at h1 hi ⊢
  generalize k q.1 = x' at h2 hi ⊢
  obtain ⟨a, o, t, u, n, e, ho, hc, hd⟩ := h1
  obtain ⟨a', o', t', u', n', e', ho', hc', hd'⟩ := h2
  rw [e, e']
  refine PySem.W.kat_lt ho hd ho' hd' ?_
  show PySem.W.KatLex prog w A true (decide (2 < 2)) _ [(.int x t, .int x' t'), (u, u')] 0 s
  refine PySem.W.kat_cons (SeqAt.EqAt.int_int x t x' t' prog w _ _ ?_)
  refine PySem.W.kat_go (fun e1 => ?_) (fun e1 => ?_)
  · have ex : x = x' := by simpa using e1
    have ev := hi ex
    rw [e, e'] at ev
    cases ev
    have eo : o = o' := Option.some.inj (ho.symm.trans ho')
    subst eo
    rw [hd] at hd'
    have eu : u = u' := by
      injection hd' with h1 h2
      have z := congrArg (fun (a : Array Value) => a[1]?) h1
      simpa using z
    subst eu
    refine PySem.W.kat_yes (PySem.W.kat_cons (SeqAt.EqAt.same u prog w _ _ ?_))
    refine PySem.W.kat_yes (PySem.W.kat_nil ⟨rfl, ?_⟩)
    rw [ex]
    exact (decide_eq_false (Int.lt_irrefl _)).symm
  · exact PySem.W.kat_no (oneLt_int ⟨rfl, rfl⟩)
theorem ents_sortable {a : Addr} {vs : List Value} {k : Value → Int} (h0 : 0 < vs.length) (hp : ∀ v ∈ vs, IsEnt s.heap v (k v)) (inj : ∀ v ∈ vs, ∀ u ∈ vs, k v = k u → v = u) (ha : ∀ o, s.heap.get? a = some o → o.cls ≠ .type "tuple") :
    SrtO.SortableO prog w A s a vs fun v u => decide (k v < k u) := by
  intro h' keep
  have hp' : ∀ v ∈ vs, IsEnt h' v (k v) := fun v hm => by
    obtain ⟨b, o, t, u, n, e, ho, hc, hd⟩ := hp v hm
    exact ⟨b, o, t, u, n, e, keep b o (fun z => by subst z; exact ha o ho hc) ho, hc, hd⟩
  obtain ⟨fs, h1, h2, h3⟩ := firstsE (h := h') (k := k) vs hp'
  refine ⟨tuples' true, fun Q E hq => ?_, ent_cmp hp' inj⟩
  refine PySem.W.kat_kind (T := .type "int") h1 (by omega) (fun f hm => ?_) (by rfl) ?_
  · obtain ⟨x, t, rfl⟩ := h3 f hm
    exact PySem.W.Looks.now
  · have e : (Value.type "int" != Value.type "tuple") = true := by first | decide +kernel | rfl | decide
    rw [e]
    exact hq
end
theorem pairs_at {P : Program} {w : World} : ∀ {es : List DictEntry} {vs : List (L2.Key × Value)}, Pairs (mixKind P w) es vs → ∀ (j : Nat) (e : DictEntry), es[j]? = some e → ∃ kv, vs[j]? = some kv ∧ keyIs kv.1 e.key = true ∧ e.val = kv.2
  | _, _, .nil, j, e, h => by simp at h
  | _, _, .cons h1 h2 r, 0, e, h => by
    cases h
    exact ⟨_, rfl, h1, h2⟩
  | _, _, .cons h1 h2 r, j + 1, e, h => pairs_at r j e h
theorem kv_at : ∀ {ks : List (Int × Addr)} {vs : List (L2.Key × Value)}, KV (ks.map entK) vs → ∀ (j : Nat) (kv : L2.Key × Value), vs[j]? = some kv → ∃ e, ks[j]? = some e ∧ kv = (Sum.inl e.1, Value.ref e.2)
  | [], _, h, j, kv, q => by
    cases h
    simp at q
  | e :: ks, _, h, j, kv, q => by
    cases h with
    | cons r rs =>
      cases j with
      | zero =>
        have q' := Option.some.inj q
        obtain ⟨r1, r2⟩ := r
        refine ⟨e, rfl, ?_⟩
        rw [← q']
        exact Prod.ext r1.symm r2
      | succ j => exact kv_at (ks := ks) rs j kv q
theorem cr_sortedItK (hc : X.calm = true) : CallR X (.builtin "sorted") rSortItK := by
  intro pins s σ H xs us Q I r h
  obtain ⟨p, a, ks, rfl, hp, ha, q⟩ := h
  obtain rfl := Vals.ref1 r
  have view : s.heap.IsItemsView p a := (show ObjOk X.prog X.w H s.heap p (DX.itemsO p a) from I.hok p _ hp).1
  obtain ⟨z, hd, vs', rel, o, es, ep, ho, hx, hdat, hko, hpairs, hnd⟩ := dk_of I.hok ha
  have l1 : (ks.map entK).length = vs'.length := Paired.length rel
  rw [List.length_map] at l1
  have l2 : es.size = vs'.length := by
    rw [← Pairs.length hpairs, Array.length_toList]
  rw [List.length_map] at z
  have hh : X.A.handled = none := I.ok.hd hc
  refine DT.sortedI (es := es) (ep := ep) hh view ⟨o, ho, hx, hdat⟩ (by omega) fun h' tk as hk hlt hl hG => ?_
  have lak : as.length = ks.length := by omega
  have nd : as.Nodup := List.Pairwise.imp (fun h => Nat.ne_of_lt h) hG.rise
  have pr : ∀ (j : Nat) (b : Addr), as[j]? = some b → ∃ (e : Int × Addr) (t : Tok), ks[j]? = some e ∧ h'.get? b = some { cls := .type "tuple", data := .seq #[Value.int e.1 t, Value.ref e.2] } := by
    intro j b hj
    obtain ⟨en, he, hg⟩ := hG.pairs j b hj
    obtain ⟨kv, h1, h2, h3⟩ := pairs_at hpairs j en (by rw [Array.getElem?_toList]; exact he)
    obtain ⟨e, h4, rfl⟩ := kv_at rel j kv h1
    rcases keyIs_shape h2 with ⟨i, t, e1, e2⟩ | ⟨i, t, e1, e2⟩
    · cases e1
      rw [e2, h3] at hg
      exact ⟨e, t, h4, hg⟩
    · cases e1
  have knd : (ks.map (·.1)).Nodup := by
    have e : vs'.map (·.1) = ks.map fun e => (Sum.inl e.1 : L2.Key) := by
      refine List.ext_getElem? fun j => ?_
      rw [List.getElem?_map, List.getElem?_map]
      cases hv : vs'[j]? with
      | none =>
        have : ks[j]? = none := List.getElem?_eq_none (by rw [l1]; exact List.getElem?_eq_none_iff.mp hv)
        rw [this]
        rfl
      | some kv =>
        obtain ⟨e, h4, rfl⟩ := kv_at rel j kv hv
        rw [h4]
        rfl
    rw [e] at hnd
    exact List.pairwise_map.mpr (List.Pairwise.imp (fun {x y} h z => h (congrArg Sum.inl z)) (List.pairwise_map.mp hnd))
  have hob : (h'.push { cls := .type "list", data := .seq (as.map Value.ref).toArray }).get? h'.objs.size = some (seqObj "list" (as.map Value.ref).toArray 0) := Heap.get?_push_size _ rfl
  have kb : ∀ b o, s.heap.get? b = some o → (h'.push { cls := .type "list", data := .seq (as.map Value.ref).toArray }).get? b = some o := fun b o e => Heap.get?_push_of_some _ (hk b o e)
  have ne0 : ∀ b o, h'.get? b = some o → b ≠ h'.objs.size := fun b o e => Nat.ne_of_lt (Heap.lt_size e)
  generalize hh2 : h'.push { cls := .type "list", data := .seq (as.map Value.ref).toArray } = h2 at hob kb ⊢
  have ka : ∀ b o, h'.get? b = some o → h2.get? b = some o := fun b o e => by rw [← hh2]; exact Heap.get?_push_of_some _ e
  have at_ : ∀ v ∈ as.map Value.ref, ∃ (j : Nat) (b : Addr) (e : Int × Addr) (t : Tok), v = .ref b ∧ as[j]? = some b ∧ ks[j]? = some e ∧ h'.get? b = some { cls := .type "tuple", data := .seq #[Value.int e.1 t, Value.ref e.2] } := by
    intro v hv'
    obtain ⟨b, hb, rfl⟩ := List.mem_map.mp hv'
    obtain ⟨j, hj⟩ := List.mem_iff_getElem?.mp hb
    obtain ⟨e, t, he, hg⟩ := pr j b hj
    exact ⟨j, b, e, t, rfl, hj, he, hg⟩
  have kf : ∀ (b : Addr) (e : Int × Addr) (t : Tok), h'.get? b = some { cls := .type "tuple", data := .seq #[Value.int e.1 t, Value.ref e.2] } → kfI h' (.ref b) = e.1 := fun b e t hg => kfI_of hg rfl
  have ent : ∀ v ∈ as.map Value.ref, IsEnt h2 v (kfI h' v) := by
    intro v hv
    obtain ⟨j, b, e, t, rfl, _, _, hg⟩ := at_ v hv
    exact ⟨b, _, t, .ref e.2, 0, rfl, ka _ _ hg, rfl, by rw [kf b e t hg]⟩
  have inj : ∀ v ∈ as.map Value.ref, ∀ u ∈ as.map Value.ref, kfI h' v = kfI h' u → v = u := by
    intro v hv u hu hvu
    obtain ⟨j, b, e, t, rfl, j1, j2, hg⟩ := at_ v hv
    obtain ⟨i, c, f, t', rfl, i1, i2, hg'⟩ := at_ u hu
    rw [kf b e t hg, kf c f t' hg'] at hvu
    have ej : (ks.map (·.1))[j]? = some e.1 := by rw [List.getElem?_map, j2]; rfl
    have ei : (ks.map (·.1))[i]? = some e.1 := by rw [List.getElem?_map, i2, hvu]; rfl
    have eij : j = i := (List.getElem?_inj (List.getElem?_eq_some_iff.mp ej).1 knd).mp (ej.trans ei.symm)
    subst eij
    rw [i1] at j1
    cases j1
    rfl
  refine wpAny_call_entry PyProof.Rows.slot_list_sort ⟨_, hob, rfl⟩ PyProof.Rows.entry_list_sort
    (SrtO.list_sort_ord (s := { s with heap := h2, toks := tk }) (swo_int (kfI h')) hob (by rw [List.length_map]; omega) (fun h2' => ents_sortable (s := { s with heap := h2, toks := tk }) (by omega) ent inj fun o e => ?_) fun out o1 o2 => ⟨.none, rfl, ?_⟩) (PyProof.Rows.args_list_sort _)
  · have e' : some o = some (seqObj "list" (as.map Value.ref).toArray 0) := e.symm.trans hob
    cases e'
    intro c
    exact absurd (Value.type.inj c) (by decide)
  · show EP X pins σ Q (.ref h'.objs.size) { s with heap := sortedHeap h2 h'.objs.size (as.map Value.ref) out.toArray, toks := tk }
    obtain ⟨zs, pz, ez⟩ := perm_lift (fun z : Addr × Int × Addr => Value.ref z.1) o2.perm (as.zip ks) (by
      rw [show (fun z : Addr × Int × Addr => Value.ref z.1) = Value.ref ∘ Prod.fst from rfl, ← List.map_map, List.map_fst_zip (by omega)])
    have idx : ∀ z ∈ zs, ∃ j : Nat, as[j]? = some z.1 ∧ ks[j]? = some z.2 := by
      intro z' hz'
      obtain ⟨j, hj⟩ := List.mem_iff_getElem?.mp (pz.mem_iff.mp hz')
      exact ⟨j, List.getElem?_zip_eq_some.mp hj⟩
    have hperm : (zs.map (·.2)).Perm ks := by
      have e := pz.map (·.2)
      have m2 : (as.zip ks).map (·.2) = ks := List.map_snd_zip (by rw [lak]; exact Nat.le_refl _)
      rw [m2] at e
      exact e
    have kz : ∀ z ∈ zs, kfI h' (.ref z.1) = z.2.1 := fun z hz => by
      obtain ⟨j, j1, j2⟩ := idx z hz
      obtain ⟨e, t, he, hg⟩ := pr j _ j1
      rw [kf _ e t hg]
      rw [he] at j2
      cases j2
      rfl
    have hsort : (zs.map (·.2)).Pairwise (fun e f => e.1 < f.1) := by
      have le : (zs.map (·.2)).Pairwise (fun e f => e.1 ≤ f.1) := by
        have o1' : out.Pairwise (fun v u => decide (kfI h' u < kfI h' v) = false) := o1
        rw [← ez, List.pairwise_map] at o1'
        rw [List.pairwise_map]
        refine List.Pairwise.imp_of_mem (fun {x y} hx hy h => ?_) o1'
        have h2 := of_decide_eq_false h
        rw [kz x hx, kz y hy] at h2
        omega
      have ne : (zs.map (·.2)).Pairwise (fun e f => e.1 ≠ f.1) := by
        have n1 : ((zs.map (·.2)).map (·.1)).Nodup := (hperm.map (·.1)).nodup_iff.mpr knd
        exact List.pairwise_map.mp n1
      exact List.Pairwise.imp (fun {x y} h => by have := h.1; have := h.2; omega) (List.Pairwise.and le ne)
    have kF : ∀ b o, b ≠ h'.objs.size → h2.get? b = some o → (sortedHeap h2 h'.objs.size (as.map Value.ref) out.toArray).get? b = some o := fun b o hb e => (PyProof.Rows.sortedHeap_old hb (Heap.lt_size e)).trans e
    have kS : ∀ b o, s.heap.get? b = some o → (sortedHeap h2 h'.objs.size (as.map Value.ref) out.toArray).get? b = some o := fun b o e => kF b o (ne0 _ _ (hk b o e)) (kb b o e)
    obtain ⟨eF, heF⟩ := PyProof.Rows.sortedHeap_at (vs := as.map Value.ref) (out := out.toArray) hob
    have I1 : Inv X pins σ H { s with heap := sortedHeap h2 h'.objs.size (as.map Value.ref) out.toArray, toks := tk } := I.kept (t' := tk) kS
    have hn0 : H h'.objs.size = none := I.hok.fresh (Nat.le_of_lt hlt)
    have hlen : (zs.map fun z => V.ref z.1).length ≤ sizeLine := by
      have e := hperm.length_eq
      rw [List.length_map] at e
      rw [List.length_map]
      omega
    have rv : Vals (zs.map fun z => V.ref z.1) out := by
      rw [← ez]
      exact vals_maps (fun z : Addr × Int × Addr => V.ref z.1) (fun z => Value.ref z.1) zs fun _ _ => rfl
    have I2 : Inv X pins σ (upd H h'.objs.size (.lst (zs.map fun z => V.ref z.1))) { s with heap := sortedHeap h2 h'.objs.size (as.map Value.ref) out.toArray, toks := tk } :=
      I1.take (h' := sortedHeap h2 h'.objs.size (as.map Value.ref) out.toArray) (t' := tk) (fun b ob _ e => e) (I.fpOk (Nat.le_of_lt hlt) hn0) ⟨hlen, out, eF, rv, heF⟩
    obtain ⟨H2, I3, g, qt⟩ := DX.takeT (P := fun b vs => ∃ (j : Nat) (e : Int × Addr), as[j]? = some b ∧ ks[j]? = some e ∧ vs = [.int e.1, .ref e.2]) I as _ I2 nd fun b hb => by
      obtain ⟨j, hj⟩ := List.mem_iff_getElem?.mp hb
      obtain ⟨e, t, he, hg⟩ := pr j b hj
      have hbl : s.heap.objs.size ≤ b := Nat.le_of_lt (hG.above b hb)
      refine ⟨hbl, ?_, [.int e.1, .ref e.2], ⟨j, e, hj, he, rfl⟩, fun H3 => ⟨(by rw [sizeLine_eq]; show 2 ≤ 16777216; omega), [Value.int e.1 t, Value.ref e.2], .cons ⟨t, rfl⟩ (.cons rfl .nil), ⟨_, kF _ _ (ne0 _ _ hg) (ka _ _ hg), rfl, 0, rfl⟩⟩⟩
      rw [upd_ne (ne0 _ _ hg)]
      exact I.hok.fresh hbl
    have gr : ∀ b o, H b = some o → H2 b = some o := fun b o e => g b o (by rw [upd_ne (ne_of_none e hn0)]; exact e)
    refine ⟨.ref h'.objs.size, H2, I3, rfl, q H2 h'.objs.size zs gr hn0 hperm hsort (g _ _ upd_same) fun z' hz' => ?_⟩
    obtain ⟨i, i1, i2⟩ := idx z' hz'
    obtain ⟨vs, ⟨j, e, j1, j2, ev⟩, hH⟩ := qt z'.1 (List.mem_of_getElem? i1)
    have eij : i = j := (List.getElem?_inj (List.getElem?_eq_some_iff.mp i1).1 nd).mp (i1.trans j1.symm)
    subst eij
    have ee : e = z'.2 := Option.some.inj (j2.symm.trans i2)
    rw [ev, ee] at hH
    exact hH
end
end HS

/-! ### shapes, trees: plain mathematics, and what stands for them in a heap -/
namespace TR
open PySem PySem.Spec PyProof.Rows L2 HX
def Sh : Nat → Type
  | 0 => Nat
  | l + 1 => List (Sh l)
def Sh.n (s : Sh 0) : Nat := s
def Sh.ks {l : Nat} (s : Sh (l + 1)) : List (Sh l) := s
def cntS : (l : Nat) → Sh l → Nat
  | 0, n => n
  | l + 1, ks => (ks.ks.map (cntS l)).sum
def pgsS : (l : Nat) → Sh l → Nat
  | 0, _ => 1
  | l + 1, ks => 1 + (ks.ks.map (pgsS l)).sum
def loS (room l : Nat) (top : Bool) : Nat := if top = true then (if l = 0 then 0 else 2) else (room + 1) / 2
def WfSh (room : Nat) : (l : Nat) → Bool → Sh l → Prop
  | 0, top, n => loS room 0 top ≤ n.n ∧ n.n ≤ room
  | l + 1, top, ks => loS room (l + 1) top ≤ ks.ks.length ∧ ks.ks.length ≤ room ∧ ∀ k ∈ ks.ks, WfSh room l false k
/-- how many pages at most -/
def cS (room : Nat) : Nat → Nat
  | 0 => 1
  | l + 1 => 1 + room * cS room l
theorem sum_le {α : Type} {f : α → Nat} {c : Nat} : ∀ {xs : List α}, (∀ x ∈ xs, f x ≤ c) → (xs.map f).sum ≤ xs.length * c
  | [], _ => Nat.zero_le _
  | x :: xs, h => by
    have a := h x (List.mem_cons_self ..)
    have b := sum_le (f := f) (c := c) (xs := xs) fun y hy => h y (List.mem_cons_of_mem _ hy)
    rw [List.map_cons, List.sum_cons, List.length_cons, Nat.succ_mul]
    omega
theorem pgs_le {room : Nat} : ∀ {l : Nat} {top : Bool} {s : Sh l}, WfSh room l top s → pgsS l s ≤ cS room l
  | 0, _, _, _ => Nat.le_refl 1
  | l + 1, _, s, h => by
    obtain ⟨_, h2, h3⟩ := h
    have a := sum_le (f := pgsS l) (c := cS room l) (xs := s.ks) fun k hk => pgs_le (h3 k hk)
    have b : s.ks.length * cS room l ≤ room * cS room l := Nat.mul_le_mul_right _ h2
    show 1 + (s.ks.map (pgsS l)).sum ≤ 1 + room * cS room l
    omega
theorem cnt_le {room : Nat} : ∀ {l : Nat} {top : Bool} {s : Sh l}, WfSh room l top s → cntS l s ≤ room * cS room l
  | 0, _, s, h => by
    have := h.2
    show s.n ≤ room * 1
    omega
  | l + 1, _, s, h => by
    obtain ⟨_, h2, h3⟩ := h
    have a := sum_le (f := cntS l) (c := room * cS room l) (xs := s.ks) fun k hk => cnt_le (h3 k hk)
    have b : s.ks.length * (room * cS room l) ≤ room * (room * cS room l) := Nat.mul_le_mul_right _ h2
    show (s.ks.map (cntS l)).sum ≤ room * (1 + room * cS room l)
    rw [Nat.mul_add]
    omega
/-! ### in the heap -/
/-- tuples never change -/
def tpb : HO → Bool
  | .tup _ => true
  | .frz _ (.tup _) => true
  | _ => false
structure Keep (H H' : Hp) : Prop where
  all : ∀ b u, tpb u = true → H b = some u → H' b = some u
instance {H H' : Hp} : CoeFun (Keep H H') (fun _ => ∀ b xs, H b = some (.tup xs) → H' b = some (.tup xs)) := ⟨fun k b _ h => k.all b _ rfl h⟩
theorem Keep.frz {H H' : Hp} (k : Keep H H') {b : Addr} {o : Obj} {xs : List V} (h : H b = some (.frz o (.tup xs))) : H' b = some (.frz o (.tup xs)) := k.all b _ rfl h
theorem Keep.refl (H : Hp) : Keep H H := ⟨fun _ _ _ h => h⟩
theorem Keep.trans {H H1 H2 : Hp} (a : Keep H H1) (b : Keep H1 H2) : Keep H H2 := ⟨fun c u t h => b.all c u t (a.all c u t h)⟩
theorem Keep.of {H H' : Hp} (s : Same H H') : Keep H H' := ⟨fun b u _ h => s b _ h⟩
theorem tpb_no {H : Hp} {p : Addr} (h : ∀ u, H p = some u → tpb u = false) {b : Addr} {u : HO} (t : tpb u = true) (e : H b = some u) : b ≠ p := fun z => by
  subst z
  rw [h u e] at t
  cases t
theorem Keep.but {H H' : Hp} {p : Addr} (s : But p H H') (h : ∀ u, H p = some u → tpb u = false) : Keep H H' := ⟨fun b u t e => s b _ (tpb_no h t e) e⟩
theorem Keep.upd {H H' : Hp} {p : Addr} {o : HO} (s : Keep H H') (h : ∀ u, H' p = some u → tpb u = false) : Keep H (upd H' p o) := ⟨fun b u t e => by
  have z := s.all b u t e
  rw [upd_ne (tpb_no h t z)]
  exact z⟩
def ShAt (H : Hp) : (l : Nat) → V → Sh l → Prop
  | 0, v, n => v = .int (n.n : Int)
  | l + 1, v, ks => ∃ (a : Addr) (xs : List V), v = .ref a ∧ H a = some (.tup xs) ∧ Paired (ShAt H l) xs ks.ks
theorem paired_imp {α β : Type} {R R' : α → β → Prop} (h : ∀ x y, R x y → R' x y) : ∀ {xs : List α} {ys : List β}, Paired R xs ys → Paired R' xs ys
  | _, _, .nil => .nil
  | _, _, .cons r rs => .cons (h _ _ r) (paired_imp h rs)
theorem paired_snoc {α β : Type} {R : α → β → Prop} {x : α} {y : β} (h : R x y) : ∀ {xs : List α} {ys : List β}, Paired R xs ys → Paired R (xs ++ [x]) (ys ++ [y])
  | _, _, .nil => .cons h .nil
  | _, _, .cons r rs => .cons r (paired_snoc h rs)
theorem pget1 {α β : Type} {R : α → β → Prop} : ∀ {xs : List α} {ys : List β}, Paired R xs ys → ∀ {i : Nat} {x : α}, xs[i]? = some x → ∃ y, ys[i]? = some y ∧ R x y
  | _, _, .nil, i, x, h => by simp at h
  | _, _, .cons r rs, 0, x, h => by
    cases h
    exact ⟨_, rfl, r⟩
  | _, _, .cons r rs, i + 1, x, h => pget1 rs (i := i) h
theorem pget2 {α β : Type} {R : α → β → Prop} : ∀ {xs : List α} {ys : List β}, Paired R xs ys → ∀ {i : Nat} {y : β}, ys[i]? = some y → ∃ x, xs[i]? = some x ∧ R x y
  | _, _, .nil, i, x, h => by simp at h
  | _, _, .cons r rs, 0, x, h => by
    cases h
    exact ⟨_, rfl, r⟩
  | _, _, .cons r rs, i + 1, x, h => pget2 rs (i := i) h
theorem ShAt.keep {H H' : Hp} (k : Keep H H') : ∀ {l : Nat} {v : V} {s : Sh l}, ShAt H l v s → ShAt H' l v s
  | 0, _, _, h => h
  | l + 1, _, _, h => by
    obtain ⟨a, xs, rfl, h1, h2⟩ := h
    exact ⟨a, xs, rfl, k _ _ h1, paired_imp (fun _ _ r => ShAt.keep k r) h2⟩
/-- a pair of whole numbers -/
def PrAt (H : Hp) (x : V) (p : Int × Int) : Prop := ∃ t : Addr, x = .ref t ∧ H t = some (.tup [.int p.1, .int p.2])
theorem PrAt.keep {H H' : Hp} (k : Keep H H') {x : V} {p : Int × Int} (h : PrAt H x p) : PrAt H' x p := by
  obtain ⟨t, e, h1⟩ := h
  exact ⟨t, e, k _ _ h1⟩
end TR

/-! ### trees of pages: plain mathematics -/
namespace TR
open PySem PySem.Spec PyProof.Rows L2 HX
inductive Pg where
  | leaf (ps : List (Int × Int)) (nx : Int)
  | node (ks kids : List Int)
def lkp (D : List (Int × Pg)) (k : Int) : Option Pg := (D.find? fun q => decide (q.1 = k)).map (·.2)
theorem lkp_none {D : List (Int × Pg)} {k : Int} (h : ∀ q ∈ D, q.1 ≠ k) : lkp D k = none := by
  unfold lkp
  rw [List.find?_eq_none.mpr (fun q hq => by simpa using h q hq)]
  rfl
theorem lkp_ne {D : List (Int × Pg)} {k : Int} (h : lkp D k = none) : ∀ q ∈ D, q.1 ≠ k := by
  unfold lkp at h
  intro q hq e
  have z : (D.find? fun q => decide (q.1 = k)) = none := by
    cases c : D.find? fun q => decide (q.1 = k) with
    | none => rfl
    | some x => rw [c] at h; cases h
  have := List.find?_eq_none.mp z q hq
  exact this (decide_eq_true e)
theorem lkp_keep {D D' : List (Int × Pg)} {k : Int} {x : Pg} (h : lkp D k = some x) : lkp (D ++ D') k = some x := by
  unfold lkp at h ⊢
  rw [List.find?_append]
  cases c : D.find? fun q => decide (q.1 = k) with
  | none => rw [c] at h; cases h
  | some y => rw [c] at h; exact h
theorem lkp_end {D : List (Int × Pg)} {k : Int} {x : Pg} (h : lkp D k = none) : lkp (D ++ [(k, x)]) k = some x := by
  unfold lkp at h ⊢
  rw [List.find?_append]
  cases c : D.find? fun q => decide (q.1 = k) with
  | none =>
    simp
  | some y => rw [c] at h; cases h
def Tr : Nat → Type
  | 0 => Int × List (Int × Int)
  | l + 1 => Int × List Int × List (Tr l)
def lfT (n : Int) (ps : List (Int × Int)) : Tr 0 := (n, ps)
def ndT {l : Nat} (n : Int) (ks : List Int) (kids : List (Tr l)) : Tr (l + 1) := (n, ks, kids)
def Tr.ps (t : Tr 0) : List (Int × Int) := Prod.snd t
def Tr.keys {l : Nat} (t : Tr (l + 1)) : List Int := Prod.fst (Prod.snd t)
def Tr.kids {l : Nat} (t : Tr (l + 1)) : List (Tr l) := Prod.snd (Prod.snd t)
def num : (l : Nat) → Tr l → Int
  | 0, t => Prod.fst t
  | _ + 1, t => Prod.fst t
def nums : (l : Nat) → Tr l → List Int
  | 0, t => [num 0 t]
  | l + 1, t => num (l + 1) t :: t.kids.flatMap (nums l)
def prs : (l : Nat) → Tr l → List (Int × Int)
  | 0, t => t.ps
  | l + 1, t => t.kids.flatMap (prs l)
def shp : (l : Nat) → Tr l → Sh l
  | 0, t => t.ps.length
  | l + 1, t => t.kids.map (shp l)
def Laid (D : List (Int × Pg)) : (l : Nat) → Tr l → Prop
  | 0, t => ∃ nx, lkp D (num 0 t) = some (.leaf t.ps nx)
  | l + 1, t => lkp D (num (l + 1) t) = some (.node t.keys (t.kids.map (num l))) ∧ ∀ k ∈ t.kids, Laid D l k
theorem Laid.more {D D' : List (Int × Pg)} : ∀ {l : Nat} {t : Tr l}, Laid D l t → Laid (D ++ D') l t
  | 0, _, ⟨nx, h⟩ => ⟨nx, lkp_keep h⟩
  | _ + 1, _, ⟨h, g⟩ => ⟨lkp_keep h, fun k hk => (g k hk).more⟩
/-- keys between kids -/
def KBs {α : Type} (R : α → Int → Int → Prop) : Int → List Int → List α → Int → Prop
  | lo, [], [k], hi => R k lo hi
  | lo, a :: ks, k :: kids, hi => R k lo a ∧ KBs R a ks kids hi
  | _, _, _, _ => False
theorem KBs.snoc {α : Type} {R : α → Int → Int → Prop} {a hi : Int} {x : α} (hx : R x a hi) : ∀ {kids : List α} {ks : List Int} {lo : Int}, KBs R lo ks kids a → KBs R lo (ks ++ [a]) (kids ++ [x]) hi
  | [], ks, _, h => by cases ks <;> exact h.elim
  | [k], [], _, h => ⟨h, hx⟩
  | _ :: _ :: _, [], _, h => h.elim
  | k :: kids, b :: ks, _, h => ⟨h.1, KBs.snoc hx h.2⟩
theorem KBs.len {α : Type} {R : α → Int → Int → Prop} {hi : Int} : ∀ {kids : List α} {ks : List Int} {lo : Int}, KBs R lo ks kids hi → ks.length + 1 = kids.length
  | [], ks, _, h => by cases ks <;> exact h.elim
  | [k], [], _, h => rfl
  | _ :: _ :: _, [], _, h => h.elim
  | k :: kids, b :: ks, _, h => by
    have := KBs.len h.2
    simp only [List.length_cons]
    omega
/-- the pairs lie from lo on, below hi; keys between -/
def KeyB : (l : Nat) → Tr l → Int → Int → Prop
  | 0, t, lo, hi => ∀ q ∈ t.ps, lo ≤ q.1 ∧ q.1 < hi
  | l + 1, t, lo, hi => KBs (KeyB l) lo t.keys t.kids hi
/-- keys of nodes as they have to be -/
def KeyOk : (l : Nat) → Tr l → Prop
  | 0, _ => True
  | l + 1, t => t.keys.Pairwise (· < ·) ∧ (∀ k ∈ t.keys, 0 ≤ k ∧ k ≤ 1000000000) ∧ t.keys.length + 1 = t.kids.length ∧ ∀ k ∈ t.kids, KeyOk l k
/-- first comes the greater one -/
def Above (ps : List (Int × Int)) (x : Int) : Prop := ∀ q ∈ ps, x < q.1
def Below (ps : List (Int × Int)) (x : Int) : Prop := ∀ q ∈ ps, q.1 ≤ x
def All (lo hi : Int) (ps : List (Int × Int)) : Prop := ∀ q ∈ ps, lo ≤ q.1 ∧ q.1 < hi
theorem take_add' {α : Type} (xs : List α) (a b : Nat) : xs.take (a + b) = xs.take a ++ (xs.drop a).take b := by
  rw [List.take_add]
theorem cnt_pos {room : Nat} (hr : 3 ≤ room) : ∀ {l : Nat} {s : Sh l}, WfSh room l false s → 0 < cntS l s
  | 0, s, h => by
    have := h.1
    have e : loS room 0 false = (room + 1) / 2 := rfl
    rw [e] at this
    show 0 < s.n
    omega
  | l + 1, s, h => by
    obtain ⟨h1, h2, h3⟩ := h
    have e : loS room (l + 1) false = (room + 1) / 2 := rfl
    rw [e] at h1
    show 0 < (s.ks.map (cntS l)).sum
    cases c : s.ks with
    | nil =>
      rw [c] at h1
      simp only [List.length_nil] at h1
      omega
    | cons k ks =>
      have := cnt_pos hr (h3 k (by rw [c]; exact List.mem_cons_self ..))
      rw [List.map_cons, List.sum_cons]
      omega
theorem sum_more {α : Type} (f : α → Nat) {xs : List α} {i : Nat} {x : α} (h : xs[i]? = some x) : ((xs.take (i + 1)).map f).sum = ((xs.take i).map f).sum + f x := by
  rw [take_more h, List.map_append, List.sum_append]
  simp
theorem sum_part {α : Type} (f : α → Nat) (xs : List α) (i : Nat) : ((xs.take i).map f).sum ≤ (xs.map f).sum := by
  conv => rhs; rw [← List.take_append_drop i xs]
  rw [List.map_append, List.sum_append]
  omega
theorem sum_part1 {α : Type} (f : α → Nat) {xs : List α} {i : Nat} {x : α} (h : xs[i]? = some x) : ((xs.take i).map f).sum + f x ≤ (xs.map f).sum := by
  rw [← sum_more f h]
  exact sum_part f xs (i + 1)
theorem paired_take {α β : Type} {R : α → β → Prop} : ∀ {xs : List α} {ys : List β} (n : Nat), Paired R xs ys → Paired R (xs.take n) (ys.take n)
  | _, _, 0, _ => by rw [List.take_zero, List.take_zero]; exact .nil
  | _, _, _ + 1, .nil => .nil
  | _, _, n + 1, .cons r rs => .cons r (paired_take n rs)
theorem paired_drop {α β : Type} {R : α → β → Prop} : ∀ {xs : List α} {ys : List β} (n : Nat), Paired R xs ys → Paired R (xs.drop n) (ys.drop n)
  | _, _, 0, h => h
  | _, _, _ + 1, .nil => .nil
  | _, _, n + 1, .cons r rs => paired_drop n rs
theorem last_pick (last : Int) (qs : List (Int × Int)) (hs : qs.Pairwise fun a b => a.1 < b.1) (ha : Above qs last) : ∃ z, atI ([V.int last] ++ qs.map (fun q => V.int q.1)) (-1) = some (.int z) ∧ Below qs z ∧ last ≤ z ∧ (z = last ∨ ∃ q ∈ qs, z = q.1) := by
  rcases List.eq_nil_or_concat qs with rfl | ⟨r, q, rfl⟩
  · exact ⟨last, rfl, (fun q hq => nomatch hq), Int.le_refl _, .inl rfl⟩
  · rw [List.concat_eq_append] at hs ha ⊢
    have hm : q ∈ r ++ [q] := List.mem_append_right _ (List.mem_singleton.mpr rfl)
    refine ⟨q.1, ?_, fun y hy => ?_, Int.le_of_lt (ha q hm), .inr ⟨q, hm, rfl⟩⟩
    · refine at_last (n := r.length + 1) (by simp) ?_
      rw [List.map_append, ← List.append_assoc, List.getElem?_append_right (by simp)]
      simp
    · rcases List.mem_append.mp hy with hy | hy
      · exact Int.le_of_lt ((List.pairwise_append.mp hs).2.2 y hy q (List.mem_singleton.mpr rfl))
      · obtain rfl := List.mem_singleton.mp hy
        exact Int.le_refl _
/-- what is laid when a shape is gone through -/
structure Gen (l : Nat) (s : Sh l) (t : Tr l) (ps : List (Int × Int)) (ns : List Int) (D D' : List (Int × Pg)) (last last' : Int) : Prop where
  shape : shp l t = s
  pairs : prs l t = ps.take (cntS l s)
  number : nums l t = ns.take (pgsS l s)
  keys : (D'.map (·.1)).Perm (nums l t)
  laid : Laid (D ++ D') l t
  keyB : ∀ lo hi, All lo hi (ps.take (cntS l s)) → KeyB l t lo hi
  keyOk : KeyOk l t
  below : Below (ps.take (cntS l s)) last'
  above : Above (ps.drop (cntS l s)) last'
  le : last ≤ last'
  le9 : last' ≤ 1000000000
theorem Gen.num_head {l : Nat} {s : Sh l} {t : Tr l} {ps : List (Int × Int)} {ns : List Int} {D D' : List (Int × Pg)} {last last' : Int} (_ : Gen l s t ps ns D D' last last') : ∃ r, nums l t = num l t :: r := by
  cases l with
  | zero => exact ⟨[], rfl⟩
  | succ l => exact ⟨_, rfl⟩
/-! ### lists of whole numbers as data -/
theorem dpa_ints {K : PySem.W.Frag} {H : Hp} : ∀ ns : List Int, DpAll K H (ns.map V.int) (ns.map PyData.int)
  | [] => .nil
  | n :: ns => .cons (.int n) (dpa_ints ns)
theorem lay_ints : ∀ ns : List Int, PyData.canLayAll0 (ns.map PyData.int) = true
  | [] => by simp only [List.map_nil, PyData.canLayAll0]
  | n :: ns => by simp only [List.map_cons, PyData.canLayAll0, PyData.canLay0, lay_ints ns, Bool.and_self]
theorem deep_ints : ∀ ns : List Int, PyData.depthAll (ns.map PyData.int) = 0
  | [] => by simp only [List.map_nil, PyData.depthAll]
  | n :: ns => by simp only [List.map_cons, PyData.depthAll, PyData.depth, deep_ints ns, Nat.max_self]
theorem shaped_ints (ns : List Int) : SeqAt.shaped (.list (ns.map PyData.int)) = true := by
  unfold SeqAt.shaped
  simp only [PyData.canLay0, lay_ints ns, PyData.depth, deep_ints ns]
  decide
theorem eqv_intsA : ∀ a b : List Int, PyData.eqvAll (a.map PyData.int) (b.map PyData.int) = decide (a = b)
  | [], [] => by simp only [List.map_nil, PyData.eqvAll]; rfl
  | [], _ :: _ => by simp only [List.map_nil, List.map_cons, PyData.eqvAll]; rfl
  | _ :: _, [] => by simp only [List.map_nil, List.map_cons, PyData.eqvAll]; rfl
  | x :: a, y :: b => by
    simp only [List.map_cons, PyData.eqvAll, PyData.eqv, eqv_intsA a b]
    by_cases e : x = y
    · subst e
      simp
    · simp [e]
theorem eqv_ints (a b : List Int) : PyData.eqv (.list (a.map PyData.int)) (.list (b.map PyData.int)) = decide (a = b) := by
  simp only [PyData.eqv, eqv_intsA]
/-- the first kids -/
structure Mid (l : Nat) (s : List (Sh l)) (i : Nat) (ts : List (Tr l)) (ks : List Int) (ps : List (Int × Int)) (ns : List Int) (D D' : List (Int × Pg)) (last last' : Int) : Prop where
  shapes : ts.map (shp l) = s.take i
  pairs : ts.flatMap (prs l) = ps.take ((s.take i).map (cntS l)).sum
  number : ts.flatMap (nums l) = ns.take ((s.take i).map (pgsS l)).sum
  perm : (D'.map (·.1)).Perm (ts.flatMap (nums l))
  laid : ∀ t ∈ ts, Laid (D ++ D') l t
  kb : ∀ lo hi, i ≠ 0 → All lo hi (ps.take ((s.take i).map (cntS l)).sum) → KBs (KeyB l) lo ks ts hi
  empty : i = 0 → ks = []
  rising : ks.Pairwise (· < ·)
  range : ∀ x ∈ ks, 0 ≤ x ∧ x ≤ last'
  keyOk : ∀ t ∈ ts, KeyOk l t
  below : Below (ps.take ((s.take i).map (cntS l)).sum) last'
  above : Above (ps.drop ((s.take i).map (cntS l)).sum) last'
  le : last ≤ last'
  last0 : -1 ≤ last
  le9 : last' ≤ 1000000000
  few : ks.length ≤ i
theorem Mid.zero {l : Nat} {s : List (Sh l)} {ps : List (Int × Int)} {ns : List Int} {D : List (Int × Pg)} {last : Int} (ha : Above ps last) (h0 : -1 ≤ last) (h9 : last ≤ 1000000000) : Mid l s 0 [] [] ps ns D [] last last :=
  ⟨rfl, rfl, rfl, .nil, (fun _ h => nomatch h), (fun _ _ h => (h rfl).elim), fun _ => rfl, .nil, (fun _ h => nomatch h), (fun _ h => nomatch h), (fun _ h => nomatch h), ha, Int.le_refl _, h0, h9, Nat.le_refl _⟩
theorem Mid.step {l : Nat} {s : List (Sh l)} {i : Nat} {ts : List (Tr l)} {ks ks' : List Int} {ps : List (Int × Int)} {ns : List Int} {D D' D5 : List (Int × Pg)} {last last' last5 : Int} {k : Sh l} {t : Tr l}
    (h : Mid l s i ts ks ps ns D D' last last') (hk : s[i]? = some k)
    (hks : (i = 0 ∧ ks' = []) ∨ (i ≠ 0 ∧ ∃ a, ks' = ks ++ [a] ∧ last' < a ∧ ∀ q ∈ ps.drop ((s.take i).map (cntS l)).sum, a ≤ q.1))
    (g : Gen l k t (ps.drop ((s.take i).map (cntS l)).sum) (ns.drop ((s.take i).map (pgsS l)).sum) (D ++ D') D5 last' last5)
    (cp : 0 < cntS l k) (hm : ((s.take i).map (cntS l)).sum + cntS l k ≤ ps.length) : Mid l s (i + 1) (ts ++ [t]) ks' ps ns D (D' ++ D5) last last5 := by
  have le : last' ≤ last5 := g.le
  have ec := sum_more (cntS l) hk
  have ep := sum_more (pgsS l) hk
  have et : ps.take ((s.take (i + 1)).map (cntS l)).sum = ps.take ((s.take i).map (cntS l)).sum ++ (ps.drop ((s.take i).map (cntS l)).sum).take (cntS l k) := by rw [ec, List.take_add]
  have en : ns.take ((s.take (i + 1)).map (pgsS l)).sum = ns.take ((s.take i).map (pgsS l)).sum ++ (ns.drop ((s.take i).map (pgsS l)).sum).take (pgsS l k) := by rw [ep, List.take_add]
  have ed : ps.drop ((s.take (i + 1)).map (cntS l)).sum = (ps.drop ((s.take i).map (cntS l)).sum).drop (cntS l k) := by rw [ec, List.drop_drop]
  refine ⟨?_, ?_, ?_, ?_, ?_, ?_, ?_, ?_, ?_, ?_, ?_, ?_, Int.le_trans h.le le, h.last0, g.le9, ?_⟩
  · rw [List.map_append, h.shapes, take_more hk, ← g.shape]
    rfl
  · rw [List.flatMap_append, h.pairs, et, ← g.pairs]
    simp
  · rw [List.flatMap_append, h.number, en, ← g.number]
    simp
  · rw [List.map_append, List.flatMap_append]
    refine h.perm.append ?_
    rw [show [t].flatMap (nums l) = nums l t by simp]
    exact g.keys
  · intro u hu
    rw [← List.append_assoc]
    rcases List.mem_append.mp hu with hu | hu
    · exact (h.laid u hu).more
    · obtain rfl := List.mem_singleton.mp hu
      exact g.laid
  · intro lo hi _ hall
    rw [et] at hall
    rcases hks with ⟨e, rfl⟩ | ⟨e, a, rfl, h1, h2⟩
    · have : ts = [] := by
        have z := congrArg List.length h.shapes
        rw [List.length_map, e, List.take_zero] at z
        exact List.eq_nil_of_length_eq_zero z
      subst this
      exact g.keyB lo hi fun q hq => hall q (List.mem_append_right _ hq)
    · refine KBs.snoc (g.keyB a hi fun q hq => ⟨h2 q (List.mem_of_mem_take hq), (hall q (List.mem_append_right _ hq)).2⟩) (h.kb lo a e fun q hq => ⟨(hall q (List.mem_append_left _ hq)).1, ?_⟩)
      have := h.below q hq
      omega
  · intro e
    omega
  · rcases hks with ⟨e, rfl⟩ | ⟨e, a, rfl, h1, h2⟩
    · exact .nil
    · refine List.pairwise_append.mpr ⟨h.rising, List.pairwise_singleton _ _, fun x hx y hy => ?_⟩
      obtain rfl := List.mem_singleton.mp hy
      have := (h.range x hx).2
      omega
  · intro x hx
    rcases hks with ⟨e, rfl⟩ | ⟨e, a, rfl, h1, h2⟩
    · cases hx
    · rcases List.mem_append.mp hx with hx | hx
      · have := h.range x hx
        exact ⟨this.1, by omega⟩
      · obtain rfl := List.mem_singleton.mp hx
        have h3 := h.le
        have h4 := h.last0
        refine ⟨by omega, ?_⟩
        cases c : (ps.drop ((s.take i).map (cntS l)).sum).take (cntS l k) with
        | nil =>
          have z := congrArg List.length c
          rw [List.length_take, List.length_drop, List.length_nil] at z
          omega
        | cons q qs =>
          have hq : q ∈ (ps.drop ((s.take i).map (cntS l)).sum).take (cntS l k) := by rw [c]; exact List.mem_cons_self ..
          have z1 := h2 q (List.mem_of_mem_take hq)
          have z2 := g.below q hq
          omega
  · intro u hu
    rcases List.mem_append.mp hu with hu | hu
    · exact h.keyOk u hu
    · obtain rfl := List.mem_singleton.mp hu
      exact g.keyOk
  · rw [et]
    intro q hq
    rcases List.mem_append.mp hq with hq | hq
    · exact Int.le_trans (h.below q hq) le
    · exact g.below q hq
  · rw [ed]
    exact g.above
  · rcases hks with ⟨e, rfl⟩ | ⟨e, a, rfl, h1, h2⟩
    · exact Nat.zero_le _
    · have := h.few
      rw [List.length_append]
      show ks.length + 1 ≤ i + 1
      omega
theorem Mid.done {l : Nat} {s : Sh (l + 1)} {z : Int} {ts : List (Tr l)} {ks : List Int} {ps : List (Int × Int)} {ns : List Int} {D D' : List (Int × Pg)} {last last' : Int}
    (h : Mid l s.ks s.ks.length ts ks ps ns D D' last last') (hn : s.ks.length ≠ 0) (hall : All 0 1000000001 ps) (hz : lkp D z = none) (hz2 : z ∉ ns) :
    Gen (l + 1) s (ndT z ks ts) ps (z :: ns) D (D' ++ [(z, .node ks (ts.map (num l)))]) last last' := by
  have ec : cntS (l + 1) s = ((s.ks.take s.ks.length).map (cntS l)).sum := by rw [List.take_length]; rfl
  have ep : pgsS (l + 1) s = ((s.ks.take s.ks.length).map (pgsS l)).sum + 1 := by rw [List.take_length]; exact Nat.add_comm _ _
  have hkb : ∀ lo hi, All lo hi (ps.take (cntS (l + 1) s)) → KBs (KeyB l) lo ks ts hi := fun lo hi hl => h.kb lo hi hn (by rw [← ec]; exact hl)
  have hd' : lkp (D ++ D') z = none := lkp_none fun q hq e => by
    rcases List.mem_append.mp hq with hq | hq
    · exact lkp_ne hz q hq e
    · have m : q.1 ∈ ts.flatMap (nums l) := h.perm.mem_iff.mp (List.mem_map_of_mem hq)
      rw [h.number, e] at m
      exact hz2 (List.mem_of_mem_take m)
  refine ⟨?_, ?_, ?_, ?_, ⟨?_, ?_⟩, hkb, ⟨h.rising, fun k hk => ?_, ?_, h.keyOk⟩, ?_, ?_, h.le, h.le9⟩
  · have := h.shapes
    rw [List.take_length] at this
    exact this
  · rw [ec]
    exact h.pairs
  · rw [ep]
    show z :: ts.flatMap (nums l) = z :: ns.take _
    rw [h.number]
  · show ((D' ++ [(z, Pg.node ks (ts.map (num l)))]).map (·.1)).Perm (z :: ts.flatMap (nums l))
    rw [List.map_append]
    refine (List.perm_append_comm (l₁ := D'.map (·.1)) (l₂ := [z])).trans ?_
    exact List.Perm.cons z h.perm
  · rw [← List.append_assoc]
    exact lkp_end hd'
  · intro k hk
    rw [← List.append_assoc]
    exact (h.laid k hk).more
  · have a := h.range k hk
    have b := h.le9
    exact ⟨a.1, by omega⟩
  · exact (hkb 0 1000000001 fun q hq => hall q (List.mem_of_mem_take hq)).len
  · rw [ec]
    exact h.below
  · rw [ec]
    exact h.above
end TR

/-! ### leaves, their followers, the sorted pages -/
namespace TR
open PySem PySem.Spec PyProof.Rows L2 HX
def lvs : (l : Nat) → Tr l → List Int
  | 0, t => [num 0 t]
  | l + 1, t => t.kids.flatMap (lvs l)
theorem flatMap_sub {α β : Type} {f g : α → List β} : ∀ {xs : List α}, (∀ x ∈ xs, (f x).Sublist (g x)) → (xs.flatMap f).Sublist (xs.flatMap g)
  | [], _ => List.Sublist.refl _
  | x :: xs, h => by
    rw [List.flatMap_cons, List.flatMap_cons]
    exact (h x (List.mem_cons_self ..)).append (flatMap_sub fun y hy => h y (List.mem_cons_of_mem _ hy))
theorem lvs_sub : ∀ {l : Nat} {t : Tr l}, (lvs l t).Sublist (nums l t)
  | 0, _ => List.Sublist.refl _
  | l + 1, t => (flatMap_sub fun k _ => lvs_sub (l := l) (t := k)).trans (List.sublist_cons_self _ _)
theorem lvs_leaf {D : List (Int × Pg)} : ∀ {l : Nat} {t : Tr l}, Laid D l t → ∀ {n : Int}, n ∈ lvs l t → ∃ ps nx, lkp D n = some (.leaf ps nx)
  | 0, t, ⟨nx, h⟩, n, hn => by
    obtain rfl := List.mem_singleton.mp hn
    exact ⟨_, _, h⟩
  | l + 1, t, ⟨_, h⟩, n, hn => by
    obtain ⟨k, hk, hn⟩ := List.mem_flatMap.mp hn
    exact lvs_leaf (h k hk) hn
theorem lvs_len : ∀ {l : Nat} {t : Tr l}, (lvs l t).length ≤ (nums l t).length := lvs_sub.length_le
def setp (D : List (Int × Pg)) (k : Int) (g : Pg) : List (Int × Pg) := D.map fun q => if q.1 = k then (q.1, g) else q
theorem setp_keys (D : List (Int × Pg)) (k : Int) (g : Pg) : (setp D k g).map (·.1) = D.map (·.1) := by
  unfold setp
  rw [List.map_map]
  refine List.map_congr_left fun q _ => ?_
  show (if q.1 = k then (q.1, g) else q).1 = q.1
  split <;> rfl
theorem lkp_cons {q : Int × Pg} {D : List (Int × Pg)} {k : Int} : lkp (q :: D) k = if q.1 = k then some q.2 else lkp D k := by
  unfold lkp
  by_cases e : q.1 = k
  · rw [List.find?_cons_of_pos (by exact decide_eq_true e), if_pos e]
    rfl
  · rw [List.find?_cons_of_neg (by simpa using e), if_neg e]
theorem lkp_setp {k k' : Int} {g : Pg} : ∀ {D : List (Int × Pg)}, lkp (setp D k g) k' = if k' = k then (lkp D k).map (fun _ => g) else lkp D k'
  | [] => by
    show none = if k' = k then none else none
    split <;> rfl
  | q :: D => by
    have e : setp (q :: D) k g = (if q.1 = k then (q.1, g) else q) :: setp D k g := rfl
    rw [e, lkp_cons, lkp_setp, lkp_cons, lkp_cons]
    by_cases h : q.1 = k
    · rw [if_pos h]
      by_cases h2 : k' = k
      · rw [if_pos (show (q.1, g).1 = k' from h.trans h2.symm), if_pos h2, if_pos h]
        rfl
      · rw [if_neg (show ¬ (q.1, g).1 = k' from fun z => h2 (z.symm.trans h)), if_neg h2, if_neg h2, if_neg (fun z => h2 (z.symm.trans h))]
    · rw [if_neg h]
      by_cases h2 : k' = k
      · subst h2
        rw [if_neg h, if_pos rfl, if_pos rfl, if_neg h]
      · rw [if_neg h2, if_neg h2]
theorem lkp_setp_eq {D : List (Int × Pg)} {k : Int} {g x : Pg} (h : lkp D k = some x) : lkp (setp D k g) k = some g := by
  rw [lkp_setp, if_pos rfl, h]
  rfl
theorem lkp_setp_ne {D : List (Int × Pg)} {k k' : Int} {g : Pg} (h : k' ≠ k) : lkp (setp D k g) k' = lkp D k' := by rw [lkp_setp, if_neg h]
theorem Laid.setp {D : List (Int × Pg)} {k : Int} {ps : List (Int × Int)} {nx nx' : Int} (e : lkp D k = some (.leaf ps nx)) : ∀ {l : Nat} {t : Tr l}, Laid D l t → Laid (setp D k (.leaf ps nx')) l t
  | 0, t, ⟨m, h⟩ => by
    by_cases c : num 0 t = k
    · rw [c, e] at h
      injection h with h
      injection h with h1 h2
      exact ⟨nx', by rw [c, lkp_setp_eq e, h1]⟩
    · exact ⟨m, by rw [lkp_setp_ne c]; exact h⟩
  | l + 1, t, ⟨h, g⟩ => by
    have c : num (l + 1) t ≠ k := fun c => by
      rw [c, e] at h
      cases h
    exact ⟨by rw [lkp_setp_ne c]; exact h, fun x hx => Laid.setp e (g x hx)⟩
theorem Laid.congr {D S : List (Int × Pg)} (e : ∀ k, lkp S k = lkp D k) : ∀ {l : Nat} {t : Tr l}, Laid D l t → Laid S l t
  | 0, _, ⟨nx, h⟩ => ⟨nx, (e _).trans h⟩
  | _ + 1, _, ⟨h, g⟩ => ⟨(e _).trans h, fun k hk => (g k hk).congr e⟩
theorem nodup_at {α : Type} {L : List α} (nd : L.Nodup) {i j : Nat} {x : α} (h1 : L[i]? = some x) (h2 : L[j]? = some x) : i = j := by
  obtain ⟨a1, a2⟩ := List.getElem?_eq_some_iff.mp h1
  obtain ⟨b1, b2⟩ := List.getElem?_eq_some_iff.mp h2
  have z := List.pairwise_iff_getElem.mp nd
  rcases Nat.lt_trichotomy i j with h | h | h
  · exact (z i j a1 b1 h (a2.trans b2.symm)).elim
  · exact h
  · exact (z j i b1 a1 h (b2.trans a2.symm)).elim
/-- each leaf names the next one, the last one none -/
def NextOk (D : List (Int × Pg)) (L : List Int) (i : Nat) : Prop := ∀ j n, j < i → L[j]? = some n → ∃ ps, lkp D n = some (.leaf ps ((L[j + 1]?).getD 0))
theorem foll {L : List Int} {i : Nat} (h : i < L.length) : (L.drop 1 ++ [0])[i]? = some ((L[i + 1]?).getD 0) := by
  by_cases c : i + 1 < L.length
  · rw [List.getElem?_append_left (by rw [List.length_drop]; omega), List.getElem?_drop, Nat.add_comm 1 i, List.getElem?_eq_getElem c]
    rfl
  · rw [List.getElem?_append_right (by rw [List.length_drop]; omega), List.getElem?_eq_none (l := L) (by omega), List.length_drop, show i - (L.length - 1) = 0 by omega]
    rfl
theorem NextOk.step {D : List (Int × Pg)} {L : List Int} {i : Nat} {n : Int} {ps : List (Int × Int)} {nx : Int} (h : NextOk D L i) (nd : L.Nodup) (hn : L[i]? = some n) (e : lkp D n = some (.leaf ps nx)) : NextOk (setp D n (.leaf ps ((L[i + 1]?).getD 0))) L (i + 1) := fun j m hj hm => by
  by_cases c : j = i
  · subst c
    rw [hn] at hm
    cases hm
    exact ⟨ps, lkp_setp_eq e⟩
  · have ne : m ≠ n := fun q => by
      subst q
      exact c (nodup_at nd hm hn)
    obtain ⟨qs, hq⟩ := h j m (by omega) hm
    exact ⟨qs, by rw [lkp_setp_ne ne]; exact hq⟩
theorem lkp_mem {D : List (Int × Pg)} {k : Int} {g : Pg} (h : lkp D k = some g) : (k, g) ∈ D := by
  unfold lkp at h
  cases c : D.find? fun q => decide (q.1 = k) with
  | none => rw [c] at h; cases h
  | some x =>
    rw [c] at h
    have h1 := List.mem_of_find?_eq_some c
    have h2 : x.1 = k := of_decide_eq_true (List.find?_some (p := fun q : Int × Pg => decide (q.1 = k)) c)
    have h3 : x.2 = g := Option.some.inj h
    obtain ⟨a, b⟩ := x
    subst h2 h3
    exact h1
theorem mem_lkp {D : List (Int × Pg)} (nd : (D.map (·.1)).Nodup) {k : Int} {g : Pg} (h : (k, g) ∈ D) : lkp D k = some g := by
  induction D with
  | nil => cases h
  | cons q D ih =>
    rw [lkp_cons]
    rw [List.map_cons, List.nodup_cons] at nd
    rcases List.mem_cons.mp h with h | h
    · subst h
      rw [if_pos rfl]
    · rw [if_neg (fun e => nd.1 (by rw [e]; exact List.mem_map_of_mem h))]
      exact ih nd.2 h
theorem lkp_perm {D S : List (Int × Pg)} (nd : (D.map (·.1)).Nodup) (p : S.Perm D) (k : Int) : lkp S k = lkp D k := by
  have nd2 : (S.map (·.1)).Nodup := (p.map (·.1)).nodup_iff.mpr nd
  cases c : lkp D k with
  | some g => exact mem_lkp nd2 (p.mem_iff.mpr (lkp_mem c))
  | none =>
    refine lkp_none fun q hq e => ?_
    exact lkp_ne c q (p.mem_iff.mp hq) e
theorem paired_perm {α β : Type} {R : α → β → Prop} {xs xs' : List α} (p : xs'.Perm xs) : ∀ {ys : List β}, Paired R xs ys → ∃ ys', ys'.Perm ys ∧ Paired R xs' ys' := by
  induction p with
  | nil => exact fun h => ⟨_, .refl _, h⟩
  | cons x p ih =>
    intro ys h
    cases h with
    | cons r rs =>
      obtain ⟨ys', h1, h2⟩ := ih rs
      exact ⟨_, h1.cons _, .cons r h2⟩
  | swap x y l =>
    intro ys h
    cases h with
    | cons r rs =>
      cases rs with
      | cons r2 rs => exact ⟨_, .swap _ _ _, .cons r2 (.cons r rs)⟩
  | trans p1 p2 ih1 ih2 =>
    intro ys h
    obtain ⟨y1, h1, h2⟩ := ih2 h
    obtain ⟨y2, h3, h4⟩ := ih1 h2
    exact ⟨y2, h3.trans h1, h4⟩
/-- a sound tree, its pages by their numbers -/
structure Tree (room l : Nat) (t : Tr l) (S : List (Int × Pg)) : Prop where
  r3 : 3 ≤ room
  r8 : room ≤ 8
  wf : WfSh room l true (shp l t)
  nodup : (nums l t).Nodup
  range : ∀ k ∈ nums l t, 1 ≤ k ∧ k ≤ 1000000
  perm : (S.map (·.1)).Perm (nums l t)
  sorted : S.Pairwise fun a b => a.1 < b.1
  laid : Laid S l t
  next : NextOk S (lvs l t) (lvs l t).length
  keyB : KeyB l t 0 1000000001
  keyOk : KeyOk l t
  rising : (prs l t).Pairwise fun a b => a.1 < b.1
  good : ∀ q ∈ prs l t, 0 ≤ q.1 ∧ q.1 ≤ 1000000000 ∧ 0 ≤ q.2 ∧ q.2 ≤ 1000000000
  few : (nums l t).length ≤ 1000
end TR

/-! ### more rules -/
namespace RU
open PySem PySem.Spec PyProof.Rows L2 HX RZ
section
variable {X : Cx}
def rSeq (K : PySem.W.Frag) : V → Option Int → Option Int → Hp → VK → Prop := fun x lo hi H Q => rSlL K x lo hi H Q ∨ rSlA K x lo hi H Q
theorem sl_seq : SlR X (rSeq X.K) := SlR.or sl_list sl_tupA
end
theorem walk_zipT {K : PySem.W.Frag} {a b : Addr} {xs ys : List V} {n : Nat} (hn : n = min xs.length ys.length) : Walk (ItzT K a b) n (fun H => SqT K H a xs ∧ SqT K H b ys) (YPair (fun i => xs[i]?) (fun i => ys[i]?)) := by
  subst hn
  refine ⟨fun i _ hi q => ?_, fun _ q => ⟨xs, ys, q.1, q.2, by omega⟩, fun i H v H' _ q y => ?_⟩
  · have h1 : i < xs.length := by omega
    have h2 : i < ys.length := by omega
    exact ⟨xs, ys, xs[i], ys[i], q.1, q.2, by simp [h1], by simp [h2]⟩
  · obtain ⟨T, x, z, h1, h2, h3, h4, h5⟩ := y
    exact ⟨T, x, z, h1, h2, h3, h4 xs q.1, h5 ys q.2⟩
end RU
/-! ### zip of three tuples -/
namespace RU
open PySem PySem.Spec PyProof.Rows L2 HX RZ
def ItzT3 (K : PySem.W.Frag) (a b c : Addr) : It :=
  ⟨fun i H => ∃ (xs ys zs : List V), SqT K H a xs ∧ SqT K H b ys ∧ SqT K H c zs ∧ i < min (min xs.length ys.length) zs.length,
    fun i H v H' => ∃ T x y z, v = .ref T ∧ H T = none ∧ H' = upd H T (.tup [x, y, z]) ∧ (∀ xs, SqT K H a xs → xs[i]? = some x) ∧ (∀ ys, SqT K H b ys → ys[i]? = some y) ∧ ∀ zs, SqT K H c zs → zs[i]? = some z,
    fun i H => ∃ xs ys zs : List V, SqT K H a xs ∧ SqT K H b ys ∧ SqT K H c zs ∧ i = min (min xs.length ys.length) zs.length⟩
def Zn3 (z TI TO i1 i2 i3 a b c : Addr) (i : Nat) (h : Heap) : Prop := IsZip h z TI TO .none ∧ IsTupOf3 h TI (.ref i1) (.ref i2) (.ref i3) ∧ (∃ x y u, IsTupOf3 h TO x y u) ∧ h.IsTupleIter i1 a i ∧ h.IsTupleIter i2 b i ∧ h.IsTupleIter i3 c i
theorem turn_zip3 {P : Program} {w : World} {K : PySem.W.Frag} {elts : List Expr} {kk : Nat} {tpos : Pos} {a b c z TI TO i1 i2 i3 : Addr} (S : ZipSep3 z TI TO i1 i2 i3 [i1, a] [i2, b] [i3, c]) (na : a ≠ i1) (nb : b ≠ i2) (nc : c ≠ i3) :
    Turn P w K (.Tuple elts kk tpos) (ItzT3 K a b c) [z, TI, TO, i1, i2, i3] z (Zn3 z TI TO i1 i2 i3 a b c) where
  mem := by simp
  obj := fun i h st m hm => by
    obtain ⟨hz, hTI, ⟨x, y, u, hTO⟩, ⟨o1, e1, _, d1⟩, ⟨o2, e2, _, d2⟩, ⟨o3, e3, _, d3⟩⟩ := st
    have e' : m = z ∨ m = TI ∨ m = TO ∨ m = i1 ∨ m = i2 ∨ m = i3 := by simpa using hm
    rcases e' with q | q | q | q | q | q
    · rw [q]; exact ⟨_, hz, fun v q => nomatch q⟩
    · rw [q]; exact ⟨_, hTI, fun v q => nomatch q⟩
    · rw [q]; exact ⟨_, hTO, fun v q => nomatch q⟩
    · rw [q]; exact ⟨o1, e1, fun v q => by rw [d1] at q; cases q⟩
    · rw [q]; exact ⟨o2, e2, fun v q => by rw [d2] at q; cases q⟩
    · rw [q]; exact ⟨o3, e3, fun v q => by rw [d3] at q; cases q⟩
  keep := fun i h h' st k => by
    obtain ⟨hz, hTI, ⟨x, y, u, hTO⟩, h1, h2, h3⟩ := st
    exact ⟨k z (by simp) _ hz, k TI (by simp) _ hTI, ⟨x, y, u, k TO (by simp) _ hTO⟩, h1.at fun o q => k i1 (by simp) o q, h2.at fun o q => k i2 (by simp) o q, h3.at fun o q => k i3 (by simp) o q⟩
  item := by
    intro X hP hw hK hc i pins s σ H E I hf st hg
    subst hP hw hK
    obtain ⟨hz, hTI, hTO, h1, h2, h3⟩ := st
    obtain ⟨xs, ys, zs, hqx, hqy, hqz, hlt⟩ := hg
    obtain ⟨its, rv, p, _⟩ := I.tuple hqx
    obtain ⟨its2, rv2, p2, _⟩ := I.tuple hqy
    obtain ⟨its3, rv3, p3, _⟩ := I.tuple hqz
    have hh : X.A.handled = none := I.ok.hd hc
    have W := GoesN.zip3 (prog := X.prog) (w := X.w) (A := X.A) (elts := elts) (x1 := kk) (pos := tpos) S (Draws.tuple (A := X.A.in1) hh i1 a na its.toArray) (Draws.tuple (A := X.A.in1) hh i2 b nb its2.toArray) (Draws.tuple (A := X.A.in1) hh i3 c nc its3.toArray)
    have l1 := rv.length
    have l2 := rv2.length
    have l3 := rv3.length
    refine W.goes i s (fun u s2 => ∃ x H', Inv X pins σ H' s2 ∧ RelV x u ∧ (ItzT3 X.K a b c).yld i H x H' ∧ Zn3 z TI TO i1 i2 i3 a b c (i + 1) s2.heap ∧ ∀ b ∈ [z, TI, TO, i1, i2, i3], H' b = none) E (by simp only [List.size_toArray]; omega) ⟨hz, hTI, hTO, ⟨h1, p⟩, ⟨h2, p2⟩, ⟨h3, p3⟩⟩ fun v h' tk hY st' hk htk => ?_
    obtain ⟨T, u1, u2, u3, rfl, hT, e1, e2, e3, hTt⟩ := hY
    have hx : xs[i]? = some (xs[i]'(by omega)) := List.getElem?_eq_getElem (by omega)
    have hy : ys[i]? = some (ys[i]'(by omega)) := List.getElem?_eq_getElem (by omega)
    have hw' : zs[i]? = some (zs[i]'(by omega)) := List.getElem?_eq_getElem (by omega)
    obtain ⟨v1, hu1, r1⟩ := rv.get hx
    obtain ⟨v2, hu2, r2⟩ := rv2.get hy
    obtain ⟨v3, hu3, r3⟩ := rv3.get hw'
    have q1 : v1 = u1 := by
      have : its.toArray[i]? = some v1 := by simpa using hu1
      rw [this] at e1
      exact Option.some.inj e1
    have q2 : v2 = u2 := by
      have : its2.toArray[i]? = some v2 := by simpa using hu2
      rw [this] at e2
      exact Option.some.inj e2
    have q3 : v3 = u3 := by
      have : its3.toArray[i]? = some v3 := by simpa using hu3
      rw [this] at e3
      exact Option.some.inj e3
    subst q1 q2 q3
    have new : ObjOk X.prog X.w (upd H T (.tup [xs[i]'(by omega), ys[i]'(by omega), zs[i]'(by omega)])) h' T (.tup [xs[i]'(by omega), ys[i]'(by omega), zs[i]'(by omega)]) := ⟨by show 3 ≤ sizeLine; decide, [v1, v2, v3], .cons r1 (.cons r2 (.cons r3 .nil)), hTt⟩
    have hf' : ∀ m ∈ [z, TO, i1, i2, i3], FpOk X pins H m := fun m hm => hf m (by
      have e' : m = z ∨ m = TO ∨ m = i1 ∨ m = i2 ∨ m = i3 := by simpa using hm
      rcases e' with q | q | q | q | q <;> simp [q])
    have I1 := I.turnedNew (t' := tk) (ch := [z, TO, i1, i2, i3]) hk hf' hT new
    refine ⟨.ref T, _, I1, rfl, ⟨T, _, _, _, rfl, I.hok.fresh hT, rfl, fun l hl => by rw [I.tuple_inj hl hqx]; exact hx, fun l hl => by rw [I.tuple_inj hl hqy]; exact hy, fun l hl => by rw [I.tuple_inj hl hqz]; exact hw'⟩, ⟨st'.1, st'.2.1, st'.2.2.1, st'.2.2.2.1.1, st'.2.2.2.2.1.1, st'.2.2.2.2.2.1⟩, fun m hm => ?_⟩
    have e' : m = z ∨ m = TI ∨ m = TO ∨ m = i1 ∨ m = i2 ∨ m = i3 := by simpa using hm
    have hlt2 : m < s.heap.objs.size := by
      obtain ⟨x, y, u, hTO⟩ := hTO
      rcases e' with q | q | q | q | q | q
      · rw [q]; exact Heap.lt_size hz
      · rw [q]; exact Heap.lt_size hTI
      · rw [q]; exact Heap.lt_size hTO
      · rw [q]; obtain ⟨_, e1, _⟩ := h1; exact Heap.lt_size e1
      · rw [q]; obtain ⟨_, e2, _⟩ := h2; exact Heap.lt_size e2
      · rw [q]; obtain ⟨_, e3, _⟩ := h3; exact Heap.lt_size e3
    rw [upd_ne (Nat.ne_of_lt (Nat.lt_of_lt_of_le hlt2 hT))]
    exact (hf m hm).1
  done := by
    intro X hP hw hK hc i pins s σ H E I hf st hg
    subst hP hw hK
    obtain ⟨hz, hTI, hTO, h1, h2, h3⟩ := st
    obtain ⟨xs, ys, zs, hqx, hqy, hqz, hend⟩ := hg
    obtain ⟨its, rv, p, _⟩ := I.tuple hqx
    obtain ⟨its2, rv2, p2, _⟩ := I.tuple hqy
    obtain ⟨its3, rv3, p3, _⟩ := I.tuple hqz
    have hh : X.A.handled = none := I.ok.hd hc
    have W := GoesN.zip3 (prog := X.prog) (w := X.w) (A := X.A) (elts := elts) (x1 := kk) (pos := tpos) S (Draws.tuple (A := X.A.in1) hh i1 a na its.toArray) (Draws.tuple (A := X.A.in1) hh i2 b nb its2.toArray) (Draws.tuple (A := X.A.in1) hh i3 c nc its3.toArray)
    have l1 := rv.length
    have l2 := rv2.length
    have l3 := rv3.length
    have en : i = min (min its.toArray.size its2.toArray.size) its3.toArray.size := by simp only [List.size_toArray]; omega
    subst en
    have hf' : ∀ m ∈ [z, TO, i1, i2, i3], FpOk X pins H m := fun m hm => hf m (by
      have e' : m = z ∨ m = TO ∨ m = i1 ∨ m = i2 ∨ m = i3 := by simpa using hm
      rcases e' with q | q | q | q | q <;> simp [q])
    exact W.stops s (fun s1 => Inv X pins σ H s1) E ⟨hz, hTI, hTO, ⟨h1, p⟩, ⟨h2, p2⟩, ⟨h3, p3⟩⟩ fun h' tk hk htk => I.turnedL (t' := tk) (ch := [z, TO, i1, i2, i3]) hk hf'
  self := fun A i s Q E st h => wpAny_pyIter_zip st.1 h
def iZip3 (K : PySem.W.Frag) (ta : TA) : TI := fun σ H R => ta σ H fun vs H1 => ∃ a b c xs ys zs, vs = [.ref a, .ref b, .ref c] ∧ SqT K H1 a xs ∧ SqT K H1 b ys ∧ SqT K H1 c zs ∧ R (ItzT3 K a b c) H1
theorem pi_zip3 {X : Cx} {e e2 e3 : Expr} {ta : TA} {p pos tpos : Pos} {elts : List Expr} {kk : Nat} (hg : Gl X "zip") (hm : X.mg "zip" = none) (ha : PA X [e, e2, e3] ta)
    (hs : starEach [e, e2, e3] X.env = (false, eval e X.env) :: starEach [e2, e3] X.env := by rfl) (hpl : (backTo pos (starEach [e2, e3] X.env)).any (·.1) = false := by rfl) :
    PI X (.Tuple elts kk tpos) (.Call (.Name "zip" p) [e, e2, e3] [] pos) (iZip3 X.K ta) := by
  refine ⟨fun pins s σ H R I h => ?_⟩
  refine Call_ (ld_blt I hg hm PyProof.Rows.boot_zip (PyProof.Rows.callWith_type1 (thn (ha.run pos pins s σ H _ I h) fun us s1 ⟨vs, H1, I1, r1, q1⟩ => ?_) hs hpl))
  obtain ⟨a, b, c, xs, ys, zs, ex, hqx, hqy, hqz, q⟩ := q1
  subst ex
  cases r1 with
  | cons r rr =>
    cases rr with
    | cons r' rr =>
      cases rr with
      | cons r'' rr =>
        cases rr
        cases r
        cases r'
        cases r''
        have fresh6 : ∀ m, m ∈ [s1.heap.objs.size + 5, s1.heap.objs.size + 3, s1.heap.objs.size + 4, s1.heap.objs.size, s1.heap.objs.size + 1, s1.heap.objs.size + 2] → FpOk X pins H1 m := fun m hcm => by
          have e' : m = s1.heap.objs.size + 5 ∨ m = s1.heap.objs.size + 3 ∨ m = s1.heap.objs.size + 4 ∨ m = s1.heap.objs.size ∨ m = s1.heap.objs.size + 1 ∨ m = s1.heap.objs.size + 2 := by simpa using hcm
          have hle : s1.heap.objs.size ≤ m := by
            rcases e' with z | z | z | z | z | z
            · rw [z]; exact Nat.le_add_right _ _
            · rw [z]; exact Nat.le_add_right _ _
            · rw [z]; exact Nat.le_add_right _ _
            · rw [z]; exact Nat.le_refl _
            · rw [z]; exact Nat.le_add_right _ _
            · rw [z]; exact Nat.le_add_right _ _
          exact I1.fpOk hle (I1.hok.fresh hle)
        obtain ⟨its, rv, p1, _⟩ := I1.tuple hqx
        obtain ⟨its2, rv2, p2, _⟩ := I1.tuple hqy
        obtain ⟨its3, rv3, p3, _⟩ := I1.tuple hqz
        obtain ⟨o1, ho1, _⟩ := id p1
        obtain ⟨o2, ho2, _⟩ := id p2
        obtain ⟨o3, ho3, _⟩ := id p3
        have la := Heap.lt_size ho1
        have lb := Heap.lt_size ho2
        have lc := Heap.lt_size ho3
        refine zip_begins3 (begins_tuple a its.toArray) (begins_tuple b its2.toArray) (begins_tuple c its3.toArray) p1 p2 p3 fun h' hz hTI hTO h1 h2 h3 hsz hk => wpAny_pyIter_zip hz ?_
        have I2 : Inv X pins σ H1 { s1 with heap := h' } := I1.kept (t' := s1.toks) hk
        have S : ZipSep3 (s1.heap.objs.size + 5) (s1.heap.objs.size + 3) (s1.heap.objs.size + 4) s1.heap.objs.size (s1.heap.objs.size + 1) (s1.heap.objs.size + 2) [s1.heap.objs.size, a] [s1.heap.objs.size + 1, b] [s1.heap.objs.size + 2, c] :=
          zip_sep3 (fun m hm => by rw [List.mem_singleton.mp hm]; exact la) (fun m hm => by rw [List.mem_singleton.mp hm]; exact lb) (fun m hm => by rw [List.mem_singleton.mp hm]; exact lc)
        exact ⟨s1.heap.objs.size + 5, [s1.heap.objs.size + 5, s1.heap.objs.size + 3, s1.heap.objs.size + 4, s1.heap.objs.size, s1.heap.objs.size + 1, s1.heap.objs.size + 2], _, _, H1, rfl, I2,
          turn_zip3 S (Nat.ne_of_lt la) (Nat.ne_of_lt (Nat.lt_of_lt_of_le lb (Nat.le_add_right _ _))) (Nat.ne_of_lt (Nat.lt_of_lt_of_le lc (Nat.le_add_right _ _))), ⟨hz, hTI, ⟨_, _, _, hTO⟩, ⟨_, h1, rfl, rfl⟩, ⟨_, h2, rfl, rfl⟩, ⟨_, h3, rfl, rfl⟩⟩, fresh6, q⟩
def YTrip (xs ys zs : Nat → Option V) : Nat → Hp → V → Hp → Prop := fun i H v H' => ∃ T x y z, v = .ref T ∧ H T = none ∧ H' = upd H T (.tup [x, y, z]) ∧ xs i = some x ∧ ys i = some y ∧ zs i = some z
theorem walk_zip3 {K : PySem.W.Frag} {a b c : Addr} {xs ys zs : List V} {n : Nat} (hn : n = min (min xs.length ys.length) zs.length) : Walk (ItzT3 K a b c) n (fun H => SqT K H a xs ∧ SqT K H b ys ∧ SqT K H c zs) (YTrip (fun i => xs[i]?) (fun i => ys[i]?) (fun i => zs[i]?)) := by
  subst hn
  refine ⟨fun i _ hi q => ⟨xs, ys, zs, q.1, q.2.1, q.2.2, hi⟩, fun _ q => ⟨xs, ys, zs, q.1, q.2.1, q.2.2, rfl⟩, fun i H v H' _ q y => ?_⟩
  obtain ⟨T, x, y1, z, h1, h2, h3, h4, h5, h6⟩ := y
  exact ⟨T, x, y1, z, h1, h2, h3, h4 xs q.1, h5 ys q.2.1, h6 zs q.2.2⟩
end RU

/-! ### dict of a tuple of pairs; fields as targets -/
namespace RU
open PySem PySem.Spec PyProof.Rows L2 HX RZ
section
variable {X : Cx} {pins : List (Addr × Obj)}
/-- tuple(xs) of a list: a new tuple, of which one knows that it has no dict -/
theorem call_tupF : CallR X (.type "tuple") (fun xs H Q => ∃ p ys, xs = [.ref p] ∧ SqL X.K H p ys ∧ ∀ l o, H l = none → o.dict = none → Q (.ref l) (upd H l (.frz o (.tup ys)))) := by
  intro pins s σ H xs us Q I r h
  obtain ⟨p, ys, rfl, hq, q⟩ := h
  obtain ⟨u, rfl, rx⟩ := vals1 r
  cases rx
  obtain ⟨its, r', pl, hz⟩ := I.list hq
  have hlen := r'.length
  refine call_tuple_list pl.isList (fun h' kp => ?_) (by simp only [List.size_toArray] <;> omega)
  have I1 : Inv X pins σ H { s with heap := h' } := I.kept (t' := s.toks) kp
  have I2 : Inv X pins σ (upd H h'.objs.size (.frz { cls := .type "tuple", data := .seq its.toArray } (.tup ys))) { s with heap := h'.push { cls := .type "tuple", data := .seq its.toArray } } :=
    I1.laid (t' := s.toks) (fun b o e => Heap.get?_push_of_some _ e) (Nat.le_refl _) (show ObjOk X.prog X.w _ _ _ (.frz _ (.tup ys)) from ⟨Heap.get?_push_size _ rfl, hz, its, r', IsTup.new _ _⟩)
  exact ⟨.ref h'.objs.size, _, I2, rfl, q _ _ (I1.hok.fresh (Nat.le_refl _)) rfl⟩
theorem pairs_of2 {pins : List (Addr × Obj)} {σ : L2.St} {H : Hp} {s : Shared} (I : Inv X pins σ H s) : ∀ {ps : List Addr} {kvs : List (Key × V)}, Paired (fun p kv => SqT X.K H p [kV kv.1, kv.2]) ps kvs →
    ∃ (prs : List (Key × Value)) (pv : List (Value × Value)), KV kvs prs ∧ prs.length = ps.length ∧ pv.length = ps.length ∧ ∀ (j : Nat) (k v : Value), pv[j]? = some (k, v) → ∃ (b : Addr) (key : Key), ps[j]? = some b ∧ IsTup s.heap b #[k, v] ∧ prs[j]? = some (key, v) ∧ keyIs key k = true
  | _, _, .nil => ⟨[], [], .nil, rfl, rfl, fun j k v e => by simp at e⟩
  | _, _, .cons (a := p) (b := kv) h t => by
    obtain ⟨prs, pv, r, hl, hl2, hp⟩ := pairs_of2 I t
    obtain ⟨its, rv, ht, _⟩ := I.tuple h
    obtain ⟨u, y, ei, ru, ry⟩ := vals2 rv
    subst ei
    refine ⟨(kv.1, y) :: prs, (u, y) :: pv, .cons ⟨rfl, ry⟩ r, by rw [List.length_cons, List.length_cons, hl], by rw [List.length_cons, List.length_cons, hl2], fun j k v e => ?_⟩
    cases j with
    | zero =>
      have e' : (u, y) = (k, v) := Option.some.inj e
      injection e' with e1 e2
      subst e1 e2
      exact ⟨p, kv.1, rfl, ht, rfl, kV_is (P := X.prog) (w := X.w) ru⟩
    | succ j =>
      obtain ⟨b, key, e1, e2, e3, e4⟩ := hp j k v (by simpa using e)
      exact ⟨b, key, by simpa using e1, e2, by simpa using e3, e4⟩
def rDictT (K : PySem.W.Frag) : List V → Hp → VK → Prop := fun xs H Q => ∃ (a : Addr) (o : Obj) (ps : List Addr) (kvs : List (Key × V)), xs = [.ref a] ∧ H a = some (.frz o (.tup (ps.map V.ref))) ∧ o.dict = none ∧ Paired (fun p kv => SqT K H p [kV kv.1, kv.2]) ps kvs ∧
  ∀ p, H p = none → Q (.ref p) (upd H p (.dK (mergeK [] kvs)))
theorem call_dictT (hcalm : X.calm = true) : CallR X (.type "dict") (rDictT X.K) := by
  intro pins s σ H xs us Q I r q
  obtain ⟨a, o, ps, kvs, ex, ha, hdo, hp, q⟩ := q
  subst ex
  obtain ⟨u, eu, rx⟩ := vals1 r
  subst eu
  cases rx
  have ok : ObjOk X.prog X.w H s.heap a (.frz o (.tup (ps.map V.ref))) := I.hok a _ ha
  obtain ⟨hg, hz, its, rv, o', hg', hc, n, hd⟩ := ok
  rw [hg] at hg'
  cases hg'
  have ei := refs_at rv
  subst ei
  obtain ⟨prs, pv, rel, hl, hl2, hpr⟩ := pairs_of2 I hp
  rw [List.length_map] at hz
  have hitems : PairItems s.heap (ps.map Value.ref).toArray (fun j => (ps[j]?).getD 0) pv := by
    refine ⟨by simp [hl2], fun j k v e => ?_⟩
    obtain ⟨b, key, e1, e2, _⟩ := hpr j k v e
    refine ⟨by simp [e1], .inl ?_⟩
    show s.heap.IsTuple (ps[j]?.getD 0) #[k, v]
    rw [e1]
    exact e2
  refine PySem.call_dict_pairs (knd := mixKind X.prog X.w) (kvs := prs) (PairArg.tuple a (ps.map Value.ref).toArray (fun j => (ps[j]?).getD 0) pv) (I.ok.hd hcalm) ⟨⟨o, n, hg, hc, hdo, hd⟩, hitems⟩ ?_ (by rw [hl2]; exact hz) fun h' tk hd' k => ?_
  · refine ⟨by rw [hl, hl2], fun i key v hr => ?_⟩
    obtain ⟨b, kk, _, _, e3, e4⟩ := hpr i key v hr
    exact ⟨kk, e3, e4⟩
  · have hm : (s.heap.objs.size == sysModules) = false := beq_eq_false_iff_ne.mpr (Nat.ne_of_gt I.big)
    have hlen : (mergeK [] kvs).length ≤ sizeLine := by
      refine Nat.le_trans (length_mergeK kvs []) ?_
      rw [List.length_nil, Nat.zero_add, rel.length, hl]
      exact hz
    exact ⟨.ref s.heap.objs.size, upd H s.heap.objs.size (.dK (mergeK [] kvs)), I.laid (t' := tk) (fun b o e => k b o (by simp) e) (Nat.le_refl _) (show ObjOk X.prog X.w _ _ _ (.dK (mergeK [] kvs)) from ⟨hlen, hm, merged [] prs, KV.merge rel .nil, hd'⟩), rfl, q _ (I.hok.fresh (Nat.le_refl _))⟩
/-- o.f, to which a part is given -/
def gFld (K : PySem.W.Frag) (ta : TE) (f : Str) : TG := fun y σ H Q => ta σ H fun x H2 => ∃ a C dx fs, x = .ref a ∧ H2 a = some (.ins C dx fs) ∧ Cls K C ∧ NoAttr K C f ∧ fs.length < 1000 ∧ Q σ (upd H2 a (.ins C dx (putF f y fs)))
theorem pg_fld {o : Expr} {f : Str} {pos' : Pos} {ta : TE} (ha : PE X o ta) : PG X (.Attribute o f pos') (gFld X.K ta f) := by
  refine ⟨fun pins s σ H v u Q I r h => ?_⟩
  rw [assign_Attribute]
  refine wpAny_bind (wpAny_holding (thn (ha.run pins s σ H _ I h) fun ov s1 ⟨x, H1, I1, r1, a, C, dx, fs, ex, ea, c, n, l, q⟩ => ?_))
  subst ex
  obtain rfl : ov = Value.ref a := r1
  refine wpAny_bind (wpAny_standAt (wpAny_bind (wpAny_holding (setattr_ok I1 ea c n l r fun s2 I2 => ?_))))
  exact wpAny_release ⟨σ, _, I2, q⟩
end
theorem putK_new {kvs : List (Key × V)} {k : Key} {v : V} (h : ∀ q ∈ kvs, q.1 ≠ k) : putK kvs k v = kvs ++ [(k, v)] := by
  unfold putK
  rw [if_neg]
  intro z
  obtain ⟨x, hx, hx2⟩ := List.any_eq_true.mp z
  exact h x hx (of_decide_eq_true hx2)
theorem mergeK_nodup : ∀ {more kvs : List (Key × V)}, ((kvs ++ more).map (·.1)).Nodup → mergeK kvs more = kvs ++ more
  | [], kvs, _ => (List.append_nil kvs).symm
  | p :: more, kvs, h => by
    have e : mergeK kvs (p :: more) = mergeK (putK kvs p.1 p.2) more := rfl
    have hn : ∀ q ∈ kvs, q.1 ≠ p.1 := fun q hq e => by
      rw [List.map_append, List.map_cons] at h
      exact (List.nodup_append.mp h).2.2 q.1 (List.mem_map_of_mem hq) p.1 (List.mem_cons_self ..) e
    rw [e, putK_new hn, mergeK_nodup (by rw [List.append_assoc]; exact h), List.append_assoc]
    rfl
/-- a walk whose body says by itself where it goes on -/
theorem out_it {J : It} {n : Nat} {G : Hp → Prop} {Y : Nat → Hp → V → Hp → Prop} (w : Walk J n G Y) {H0 : Hp} {body : V → Hp → (Hp → Prop) → Prop} {Qd : Hp → Prop} (Pv : Nat → Hp → Prop) (h0 : Pv 0 H0) (hG : ∀ i H, i ≤ n → Pv i H → G H)
    (hs : ∀ i x H H', i < n → Pv i H → Y i H x H' → body x H' (Pv (i + 1))) (hd : ∀ H, Pv n H → Qd H) :
    ∃ W : Nat → Nat → Hp → Prop, (∃ m, W 0 m H0) ∧ ∀ i m H, W i m H → (J.stop i H ∧ Qd H) ∨ (J.go i H ∧ ∃ Nx : Hp → Prop, (∀ H', Nx H' → ∃ m', m' < m ∧ W (i + 1) m' H') ∧ ∀ x H', J.yld i H x H' → body x H' Nx) := by
  refine ⟨fun i m H => m = n - i ∧ i ≤ n ∧ Pv i H, ⟨n, by simp, Nat.zero_le _, h0⟩, ?_⟩
  rintro i m H ⟨rfl, hi, p⟩
  have q := hG i H hi p
  by_cases hlt : i < n
  · refine .inr ⟨w.goes i H hlt q, Pv (i + 1), fun H' p' => ⟨n - (i + 1), by omega, rfl, hlt, p'⟩, fun x H' y => hs i x H H' hlt p (w.yields i H x H' hlt q y)⟩
  · have e : i = n := by omega
    subst e
    exact .inl ⟨w.stops H q, hd H p⟩
/-- {k: v} -/
theorem pe_dict1 {X : Cx} {k v : Expr} {tk tv : TE} {pos : Pos} (hk : PE X k tk) (hv : PE X v tv) : PE X (.Dict [some k] [v] pos) (tDisp [(tk, tv)]) :=
  pe_disp (pps_cons hk hv pps_nil) rfl rfl (by simp) (by simp)
theorem pi_tupK {X : Cx} (K : PySem.W.Frag) {tg l : Expr} {tl : TE} (hl : PE X l tl) (h : X.K = K := by rfl) : PI X tg l (iTup K tl) := by
  subst h
  exact pi_tup hl
end RU

/-! ### rows of a tree -/
namespace TR
open PySem PySem.Spec PyProof.Rows L2 HX
def kidsF {m : Nat} (F : List (Tr (m + 1))) : List (Tr m) := F.flatMap Tr.kids
def rows : (m : Nat) → List (Tr m) → List (List Int)
  | 0, F => [F.map (num 0)]
  | m + 1, F => F.map (num (m + 1)) :: rows m (kidsF F)
theorem rows_cons : ∀ {m : Nat} (F : List (Tr m)), ∃ r, rows m F = F.map (num m) :: r
  | 0, _ => ⟨[], rfl⟩
  | _ + 1, _ => ⟨_, rfl⟩
theorem flat_cons {α β : Type} (f : α → β) (g : α → List β) : ∀ F : List α, (F.flatMap fun t => f t :: g t).Perm (F.map f ++ F.flatMap g)
  | [] => .refl _
  | a :: F => by
    rw [List.flatMap_cons, List.map_cons, List.flatMap_cons, List.cons_append, List.cons_append]
    refine List.Perm.cons _ ?_
    refine ((flat_cons f g F).append_left (g a)).trans ?_
    rw [← List.append_assoc, ← List.append_assoc]
    exact (List.perm_append_comm).append_right _
theorem rows_perm : ∀ {m : Nat} (F : List (Tr m)), (rows m F).flatten.Perm (F.flatMap (nums m))
  | 0, F => by
    have e : F.flatMap (nums 0) = F.map (num 0) := by
      have : nums 0 = fun t => [num 0 t] := rfl
      rw [this]
      induction F with
      | nil => rfl
      | cons a F ih => rw [List.flatMap_cons, ih]; rfl
    rw [e]
    show ([F.map (num 0)] : List (List Int)).flatten.Perm _
    rw [List.flatten_cons, List.flatten_nil, List.append_nil]
  | m + 1, F => by
    have e : F.flatMap (nums (m + 1)) = F.flatMap (fun t => num (m + 1) t :: t.kids.flatMap (nums m)) := rfl
    rw [e]
    refine List.Perm.trans ?_ (flat_cons _ _ F).symm
    show (F.map (num (m + 1)) :: rows m (kidsF F)).flatten.Perm _
    rw [List.flatten_cons]
    refine List.Perm.append_left _ ((rows_perm (kidsF F)).trans ?_)
    unfold kidsF
    rw [List.flatMap_assoc]
theorem rows_last : ∀ {m : Nat} (F : List (Tr m)), (rows m F).getLast? = some (F.flatMap (lvs m))
  | 0, F => by
    have e : F.flatMap (lvs 0) = F.map (num 0) := by
      have : lvs 0 = fun t => [num 0 t] := rfl
      rw [this]
      induction F with
      | nil => rfl
      | cons a F ih => rw [List.flatMap_cons, ih]; rfl
    rw [e]
    rfl
  | m + 1, F => by
    obtain ⟨r, hr⟩ := rows_cons (kidsF F)
    have ih := rows_last (kidsF F)
    show (F.map (num (m + 1)) :: rows m (kidsF F)).getLast? = _
    rw [hr] at ih ⊢
    rw [List.getLast?_cons_cons, ih]
    unfold kidsF
    rw [List.flatMap_assoc]
    rfl
theorem rows_len : ∀ {m : Nat} (F : List (Tr m)), (rows m F).length = m + 1
  | 0, _ => rfl
  | m + 1, F => by
    show (rows m (kidsF F)).length + 1 = _
    rw [rows_len]
end TR

/-! ### repr of data; the promise of a def around which nothing is being shown -/
namespace RP
open PySem PySem.Spec PyProof.Rows L2 HX RZ
/-- data whose text is short: of weight n, depth k at most -/
structure Nice (d : PyData) (n k : Nat) : Prop where
  sh : d.showable = true
  nd : d.hasDict = false
  ls : d.leavesShort 13 = true
  wt : d.weight ≤ n
  dp : d.depth ≤ k
theorem Nice.le {d : PyData} {n k n' k' : Nat} (h : Nice d n k) (a : n ≤ n') (b : k ≤ k') : Nice d n' k' := ⟨h.sh, h.nd, h.ls, Nat.le_trans h.wt a, Nat.le_trans h.dp b⟩
theorem nice_int {i : Int} (h1 : -999999999999 ≤ i) (h2 : i ≤ 999999999999) : Nice (.int i) 40 0 := by
  have hl : i.natAbs.log2 < 40 := by
    by_cases z : i.natAbs = 0
    · rw [z]; decide
    · exact (Nat.log2_lt z).mpr (by omega)
  refine ⟨?_, rfl, ?_, ?_, Nat.le_refl 0⟩
  · show decide (i.natAbs.log2 < 1920) = true
    exact decide_eq_true (by omega)
  · show decide ((PyData.shown (.int i)).length ≤ 13) = true
    exact decide_eq_true (PyData.shown_int_le2 h1 h2)
  · show (if (i == 0) = true then 0 else i.natAbs.log2 + 1) ≤ 40
    split <;> omega
theorem nice_rows {n k : Nat} : ∀ {ds : List PyData}, (∀ d ∈ ds, Nice d n k) → PyData.showableAll ds = true ∧ PyData.hasDictAll ds = false ∧ PyData.leavesShortAll 13 ds = true ∧ PyData.weightAll ds ≤ ds.length * (n + 1) ∧ PyData.depthAll ds ≤ k
  | [], _ => ⟨rfl, rfl, rfl, Nat.zero_le _, Nat.zero_le _⟩
  | d :: ds, h => by
    have a := h d (List.mem_cons_self ..)
    obtain ⟨b1, b2, b3, b4, b5⟩ := nice_rows (n := n) (k := k) (ds := ds) fun x hx => h x (List.mem_cons_of_mem _ hx)
    refine ⟨?_, ?_, ?_, ?_, ?_⟩
    · show (d.showable && PyData.showableAll ds) = true
      rw [a.sh, b1]; rfl
    · show (d.hasDict || PyData.hasDictAll ds) = false
      rw [a.nd, b2]; rfl
    · show (d.leavesShort 13 && PyData.leavesShortAll 13 ds) = true
      rw [a.ls, b3]; rfl
    · show d.weight + 1 + PyData.weightAll ds ≤ (ds.length + 1) * (n + 1)
      have := a.wt
      rw [Nat.succ_mul]
      omega
    · show max d.depth (PyData.depthAll ds) ≤ k
      have := a.dp
      omega
theorem nice_tup {ds : List PyData} {n k m : Nat} (h : ∀ d ∈ ds, Nice d n k) (hm : ds.length * (n + 1) ≤ m) : Nice (.tuple ds) m (k + 1) := by
  obtain ⟨b1, b2, b3, b4, b5⟩ := nice_rows h
  exact ⟨b1, b2, b3, Nat.le_trans b4 hm, Nat.succ_le_succ b5⟩
theorem nice_lst {ds : List PyData} {n k m : Nat} (h : ∀ d ∈ ds, Nice d n k) (hm : ds.length * (n + 1) ≤ m) : Nice (.list ds) m (k + 1) := by
  obtain ⟨b1, b2, b3, b4, b5⟩ := nice_rows h
  exact ⟨b1, b2, b3, Nat.le_trans b4 hm, Nat.succ_le_succ b5⟩
structure NiceAll (ds : List PyData) (n k : Nat) : Prop where
  sh : PyData.showableAll ds = true
  nd : PyData.hasDictAll ds = false
  ls : PyData.leavesShortAll 13 ds = true
  wt : PyData.weightAll ds ≤ n
  dp : PyData.depthAll ds ≤ k
theorem NiceAll.nil {k : Nat} : NiceAll [] 0 k := ⟨rfl, rfl, rfl, Nat.le_refl 0, Nat.zero_le _⟩
theorem NiceAll.cons {d : PyData} {ds : List PyData} {a b k k' : Nat} (h : Nice d a k') (hs : NiceAll ds b k) (hk : k' ≤ k) : NiceAll (d :: ds) (a + 1 + b) k := by
  refine ⟨?_, ?_, ?_, ?_, ?_⟩
  · show (d.showable && PyData.showableAll ds) = true
    rw [h.sh, hs.sh]; rfl
  · show (d.hasDict || PyData.hasDictAll ds) = false
    rw [h.nd, hs.nd]; rfl
  · show (d.leavesShort 13 && PyData.leavesShortAll 13 ds) = true
    rw [h.ls, hs.ls]; rfl
  · show d.weight + 1 + PyData.weightAll ds ≤ a + 1 + b
    have := h.wt
    have := hs.wt
    omega
  · show max d.depth (PyData.depthAll ds) ≤ k
    have := h.dp
    have := hs.dp
    omega
theorem NiceAll.all {ds : List PyData} {n k m : Nat} (h : ∀ d ∈ ds, Nice d n k) (hm : ds.length * (n + 1) ≤ m) : NiceAll ds m k := by
  obtain ⟨b1, b2, b3, b4, b5⟩ := nice_rows h
  exact ⟨b1, b2, b3, Nat.le_trans b4 hm, b5⟩
theorem NiceAll.tup {ds : List PyData} {n k : Nat} (h : NiceAll ds n k) : Nice (.tuple ds) n (k + 1) := ⟨h.sh, h.nd, h.ls, h.wt, Nat.succ_le_succ h.dp⟩
theorem NiceAll.lst {ds : List PyData} {n k : Nat} (h : NiceAll ds n k) : Nice (.list ds) n (k + 1) := ⟨h.sh, h.nd, h.ls, h.wt, Nat.succ_le_succ h.dp⟩
/-- of thirty bits -/
theorem nice_int30 {i : Int} (h1 : -1000000000 ≤ i) (h2 : i ≤ 1000000000) : Nice (.int i) 30 0 := by
  have a := nice_int (i := i) (by omega) (by omega)
  refine ⟨a.sh, a.nd, a.ls, ?_, a.dp⟩
  show (if (i == 0) = true then 0 else i.natAbs.log2 + 1) ≤ 30
  split
  · omega
  · have hl : i.natAbs.log2 < 30 := by
      by_cases z : i.natAbs = 0
      · rw [z]; decide
      · exact (Nat.log2_lt z).mpr (by omega)
    omega
theorem nice_bool (b : Bool) : Nice (.bool b) 0 0 := ⟨rfl, rfl, rfl, Nat.le_refl 0, Nat.le_refl 0⟩
theorem nice_none : Nice .none 0 0 := ⟨rfl, rfl, rfl, Nat.le_refl 0, Nat.le_refl 0⟩
theorem dpAll_of {K : PySem.W.Frag} {H : Hp} {β : Type} {R : V → β → Prop} {f : β → PyData} (h : ∀ x y, R x y → Dp K H x (f y)) : ∀ {xs : List V} {ys : List β}, Paired R xs ys → DpAll K H xs (ys.map f)
  | _, _, .nil => .nil
  | _, _, .cons r rs => .cons (h _ _ r) (dpAll_of h rs)
theorem nice_leaf : Nice (.str "leaf") 4 0 := ⟨rfl, rfl, by decide, by decide, Nat.le_refl 0⟩
theorem nice_node : Nice (.str "node") 4 0 := ⟨rfl, rfl, by decide, by decide, Nat.le_refl 0⟩
/-- repr(x), x data that stands in the heap; nothing is being shown around -/
theorem call_reprD {X : Cx} (hg : X.A.guards = some []) (hu : X.A.units + 64 < cLine) : CallR X (.builtin "repr") (fun xs H Q => ∃ (a : Addr) (d : PyData) (n : Nat), xs = [.ref a] ∧ Dp X.K H (.ref a) d ∧ Nice d n 50 ∧ n ≤ 2 ^ 20 ∧ Q (.str d.shown) H) := by
  intro pins s σ H xs us Q I r h
  obtain ⟨a, d, n, rfl, hd, hn, hl, q⟩ := h
  obtain ⟨u, rfl, rx⟩ := vals1 r
  obtain rfl : u = Value.ref a := rx
  obtain ⟨as, rr⟩ := Dp.reads I d _ _ hd (rfl : RelV (.ref a) (.ref a))
  refine repr_of_reads' rr hn.sh (PyData.noDict_hsm hn.nd) hg (by have := hn.dp; omega) (fun _ _ e => e) (fun h' t tk hk => ⟨.str d.shown, H, I.kept (t' := tk) hk, ⟨t, rfl⟩, q⟩) (PyData.shown_fits (B := 13) (by decide) (by decide) hn.ls (Nat.le_trans hn.wt hl))
/-- as FnOk, where nothing is being shown around -/
structure FnOkG (P : Program) (w : World) (K : PySem.W.Frag) (mg : Str → Option Value) (base : Heap) (CX : CXT) (k : Nat) (f : Addr) (fd : FuncData) (ps : List Str) (sp : Sp) : Prop where
  go : ∀ (Z : Around) (envs : List Env) (c : Shared) (G : Hp) (us : List Value) (vs : List V) (Q : VK) (E : XK) (as : Args), Z.guards = some [] → Room k Z → Env0 P w K mg base Z envs c G → BindsTo c fd as (ps.zip us) → Vals vs us → sp vs G Q E →
    codeAny (model P w) Z (.call (.ref f) as) (CR CX envs P w G c Q E) c
theorem okG {P : Program} {w : World} {K : PySem.W.Frag} {mg : Str → Option Value} {base : Heap} {CX : CXT} {x qual : Str} {pr : Arguments} {bd : List Stmt} {sc : Scope} {dvs : List V} {kws : List (Str × V)} {f : Addr} {fd : FuncData} {N ps : List Str} {k : Nat} {sp : Sp}
    (F : FunD K x qual pr bd sc dvs kws f fd) (S : FnScope N ps sc) (len : ∀ vs H Q E, sp vs H Q E → vs.length = ps.length)
    (hb : ∀ (cdv : Value) (Z : Around) (envs : List Env) (c : Shared) (G : Hp) (vs : List V) (Q : VK) (E : XK), Z.guards = some [] → Room k (Z.deeper (envOfC qual sc c.heap.objs.size f cdv)) → sp vs G Q E →
      ∃ t, PSs (cxOf CX P w K mg base N qual sc f cdv Z envs c G E) bd t ∧ t { nx := fun _ G' => Q .non G', rt := Q } (start N vs) G) : FnOkG P w K mg base CX (k + 1) f fd ps sp := by
  obtain ⟨oc, od, dV, kV, doc, pm, an, cdv, ct, osl, rfl, lk, hcd, _, _⟩ := F.ex
  constructor
  intro Z envs c G us vs Q E as hz hr e0 hbt rel hsp
  have n0 := len _ _ _ _ hsp
  have kp : ∀ b o, base.get? b = some o → c.heap.get? b = some o := fun b o e => (e0.bs b o e).1
  have hK : K.In c.heap := e0.mod.kin.keeps kp
  have nl : c.heap.NoLimit := e0.mod.nolimit.keeps kp
  refine codeAny_call_function hr.depth (hK _ _ lk) rfl S.co S.gen rfl (PySem.W.codeRec_of hK hcd) (hbt _ _ _ _ ?_)
  refine wpAny_newFunctionEnv_cells S.kind ?_ ?_
  · rintro ⟨n, v⟩ hy
    rcases S.par n (List.of_mem_zip hy).1 with q | q
    · exact .inl q
    · exact .inr ⟨q, PySem.W.cellsFrom_some _ _ _ (.inl q)⟩
  intro env he c1 xx
  subst he
  refine ⟨nl.keeps xx.toInCall.keep, codeAny_func ?_⟩
  obtain ⟨t, ht, hq⟩ := hb cdv Z envs c G vs Q E hz (hr.deeper _) hsp
  refine wpAny_mono (ht.run [] c1 (start N vs) G _ (inv_start S hr.hd e0 n0 rel xx) hq) ?_ fun e c' z => z
  intro fl c' z
  match fl, z with
  | .ret u, ⟨v, σ', G', J, rv, q⟩ => exact ⟨v, G', J.os, J.bare, J.base, J.hok, rv, q⟩
  | .next, ⟨σ', G', J, q⟩ => exact ⟨V.non, G', J.os, J.bare, J.base, J.hok, rfl, q⟩
  | .brk, ⟨_, _, _, q⟩ => exact False.elim q
  | .cont, ⟨_, _, _, q⟩ => exact False.elim q
end RP

/-! ### the end of a law for a def around which nothing is being shown -/
namespace RP
open PySem PySem.Spec PyProof.Rows L2 HX RZ
theorem law_goes {P : Program} {w : World} {K : PySem.W.Frag} {mg mb : Str → Option Value} {k : Nat} {fa a : Addr} {fd : FuncData} {x : Str} {sp : Sp} {c : Shared} {us : List Value} {ns : List Int}
    (hK : K.In c.heap) (hm : c.heap.Ns mainGlobals mg) (hb : c.heap.Ns builtinsNs mb) (hbb : ∀ x : Str, x ≠ "__name__" → mb x = bootBuiltins x) (nl : c.heap.NoLimit) (ng : c.gens = #[])
    (ha : c.heap.get? a = some { cls := .type "list", data := .seq us.toArray }) (hi : IntsAre us ns) (hl : ns.length ≤ sizeLine) (hr : Room k callerA)
    (F : ∀ base : Heap, K.In base → base.Ns mainGlobals mg → FnOkG P w K mg base CX0 k fa fd [x] sp) (hbind : ∀ (s : Shared) (u : Value), BindsTo s fd ⟨[u], []⟩ [(x, u)])
    (hsp : ∀ G : Hp, Only G → SqL K G a (ns.map V.int) → sp [.ref a] G (fun v _ => v = .bl true) fun _ _ _ => False) :
    codeAny (model P w) callerA (.call (.ref fa) ⟨[.ref a], []⟩) (fun r c' => r = .ok (.ret (.bool true)) ∧ OldK c.heap c'.heap ∧ c'.os = c.os ∧ AllBare c'.gens) c := by
  have rv := vals_ints hi
  have main : ∀ G : Hp, Only G → SqL K G a (ns.map V.int) → HOk P w G c.heap → (∀ b, G b ≠ none → b = a) → (G a ≠ none → K.lookup a = none) →
      codeAny (model P w) callerA (.call (.ref fa) ⟨[.ref a], []⟩) (fun r c' => r = .ok (.ret (.bool true)) ∧ OldK c.heap c'.heap ∧ c'.os = c.os ∧ AllBare c'.gens) c := by
    intro G hO hS hok only own
    have away : ∀ {b : Addr}, b ≠ a → G b = none := fun {b} n => by
      rcases z : G b with _ | u
      · rfl
      · exact (n (only b (by rw [z]; exact nofun))).elim
    have ns0 : ∀ {b : Addr} {m : Str → Option Value}, c.heap.Ns b m → (hidT c.heap G).Ns b m := by
      rintro b m ⟨o, es, ep, e, d, r⟩
      refine ⟨o, es, ep, hidT_get e (away ?_), d, r⟩
      rintro rfl
      rw [ha] at e
      cases e
      exact nomatch d
    have kin : K.In (hidT c.heap G) := by
      intro b o e
      refine hidT_get (hK b o e) ?_
      rcases z : G b with _ | u
      · rfl
      · have n : G b ≠ none := by rw [z]; exact nofun
        have e' := only b n
        subst e'
        rw [own n] at e
        exact nomatch e
    have hM : Mod K mg (hidT c.heap G) := by
      obtain ⟨mc, q1, q2⟩ := nl
      exact ⟨kin, ns0 hm, ⟨mb, ns0 hb, hbb⟩, ⟨mc, ns0 q1, q2⟩⟩
    have e0 : Env0 P w K mg (hidT c.heap G) callerA [] c G := ⟨rfl, hM, fun b o e => of_hidT e, Nat.le_of_eq (hidT_size _ _), trivial, (fun b q => nomatch q), hok, .of_eq ng⟩
    refine codeAny_mono ((F _ kin (ns0 hm)).go callerA [] c G [.ref a] [.ref a] _ _ _ rfl hr e0 (hbind c (.ref a)) (.cons rfl .nil) (hsp G hO hS)) ?_
    intro r c' z
    match r, z with
    | .error _, z => exact False.elim (by simpa [CR, CX0] using z)
    | .ok (.ret u), ⟨v, G', os, bare, un, hok', r', q⟩ =>
      obtain rfl : v = .bl true := q
      obtain rfl : u = Value.bool true := r'
      refine ⟨rfl, OldK.of_keep ?_, os, bare⟩
      intro b o e
      rcases z : G b with _ | u
      · exact un.keep b o e z nofun nofun
      · rcases hO b with y | ⟨ob, xs, y⟩
        · rw [z] at y
          cases y
        · obtain ⟨e1, _⟩ := hok b _ y
          obtain ⟨e2, _⟩ := hok' b _ (un.frzs b ob _ y)
          rw [e] at e1
          cases e1
          exact e2
  rcases hk : K.lookup a with _ | o
  · refine main (fun b => if b = a then some (.frz { cls := .type "list", data := .seq us.toArray } (.lst (ns.map V.int))) else none) ?_ (.inl (.inr ⟨_, if_pos rfl⟩)) ?_ ?_ fun _ => hk
    · intro b
      by_cases e : b = a
      · exact .inr ⟨_, _, if_pos e⟩
      · exact .inl (if_neg e)
    · intro b u z
      by_cases e : b = a
      · have z' := (if_pos e).symm.trans z
        cases z'
        subst e
        exact ⟨ha, by rw [List.length_map]; exact hl, us, _, rv, ha⟩
      · exact nomatch (if_neg e).symm.trans z
    · intro b z
      by_cases e : b = a
      · exact e
      · exact absurd (if_neg e) z
  · have e := hK a o hk
    rw [ha] at e
    cases e
    have z := hi.length
    refine main (fun _ => none) (fun _ => .inl rfl) (.inr ⟨_, us.toArray, _, hk, rfl, rfl, rfl, ?_, by simpa using rv⟩) (fun b u z => nomatch z) (fun b z => absurd rfl z) fun z => absurd rfl z
    rw [List.size_toArray, z]
    exact hl
theorem walk_ofG {l : PySem.W.OpenLaw} {n k : Nat} {q : Program} {loose : List Str} {XP : (Str → Option Value) → Heap → Prop} {YP : World → Heap → Prop} {d : DefRec} {x : Str}
    (hn : l.most = some n) (hn2 : n ≤ sizeLine) (hdf : d.params.defaults = []) (hr : Room k callerA)
    (F : ∀ (w : World) (mg : Str → Option Value) (fa : Addr) (h : Heap), YP w h → h.Ns mainGlobals mg → mg d.name = some (.ref fa) → ∃ (K : PySem.W.Frag) (fd : FuncData) (sp : Sp), K.In h ∧ (∀ (s : Shared) (u : Value), BindsTo s fd ⟨[u], []⟩ [(x, u)]) ∧
      (∀ (G : Hp) (a : Addr) (ns : List Int), ns.length ≤ n → Only G → SqL K G a (ns.map V.int) → sp [.ref a] G (fun v _ => v = .bl true) fun _ _ _ => False) ∧ ∀ base : Heap, K.In base → base.Ns mainGlobals mg → FnOkG l.prog w K mg base CX0 k fa fd [x] sp) :
    PySem.W.WalkO q loose XP YP l.row.toRowW d [] (fun f vs => PySem.call f vs) := by
  refine Att.attach_call hn hdf ?_
  intro w c0 c mg mb fa o pm cd doc a us ns G Y ho hd hcd hmg hobj hints hlen hg
  obtain ⟨K, fd, sp, KX, hb, hsp, hF⟩ := F w mg fa _ Y G.T.g hmg
  exact law_goes KX G.T.g G.T.b G.T.builtins G.T.nolimit hg hobj hints (Nat.le_trans hlen hn2) hr hF hb (fun H hO hS => hsp H a ns hlen hO hS)
end RP

/-! ### a slice of a tuple, the whole of it too -/
namespace RU
open PySem PySem.Spec PyProof.Rows L2 HX RZ
def rSlU (K : PySem.W.Frag) : V → Option Int → Option Int → Hp → VK → Prop := fun x lo hi H Q => ∃ a xs, x = .ref a ∧ SqT K H a xs ∧ ∀ p H', Same H H' → SqT K H' p (cutV xs lo hi) → Q (.ref p) H'
theorem sl_tupU {X : Cx} : SlR X (rSlU X.K) := by
  intro pins s σ H x v vl vu lo hi sl Q I rx hs pl pu h
  obtain ⟨a, xs, rfl, hx, q⟩ := h
  refine sl_tupA pins s σ H _ v vl vu lo hi sl Q I rx hs pl pu ⟨a, xs, rfl, hx, fun ⟨w1, w2⟩ => q a H (Same.refl H) ?_, fun _ p hp => q p _ (same_new hp) (SqT.of upd_same)⟩
  unfold cutV
  rw [w1, w2, List.drop_zero, Nat.sub_zero, List.take_length]
  exact hx
end RU
/-! ### a tuple of written items, of which one knows that it has no dict -/
namespace RU
open PySem PySem.Spec PyProof.Rows L2 HX RZ
def tTupF (t : TA) : TE := fun σ H Q => t σ H fun xs H1 => xs.length ≤ sizeLine ∧ ∀ (p : Addr) (o : Obj), H1 p = none → o.dict = none → Q (.ref p) (upd H1 p (.frz o (.tup xs)))
theorem pe_tupF {X : Cx} {es : List Expr} {t : TA} {x1 : Nat} {pos : Pos} (h : PA X es t) : PE X (.Tuple es x1 pos) (tTupF t) := by
  refine ⟨fun pins s σ H Q I hq => ?_⟩
  refine wpAny_Tuple_spliced ?_
  refine thn (h.run pos pins s σ H _ I hq) ?_
  rintro us c ⟨xs, G, J, rel, few, go⟩
  refine ⟨by rw [← rel.length]; exact few, ?_⟩
  have free : G c.heap.objs.size = none := J.hok.fresh (Nat.le_refl _)
  have J2 : Inv X pins σ (upd G c.heap.objs.size (.frz { cls := .type "tuple", data := .seq us.toArray } (.tup xs))) { c with heap := c.heap.push { cls := .type "tuple", data := .seq us.toArray } } :=
    J.laid (t' := c.toks) (fun b u e => Heap.get?_push_of_some _ e) (Nat.le_refl _) (show ObjOk X.prog X.w _ _ _ (.frz _ (.tup xs)) from ⟨Heap.get?_push_size _ rfl, few, us, rel, _, Heap.get?_push_size _ rfl, rfl, _, rfl⟩)
  exact ⟨.ref c.heap.objs.size, _, J2, rfl, go _ _ free rfl⟩
end RU
/-! ### a part of a tuple, of which one knows that it has no dict -/
namespace RU
open PySem PySem.Spec PyProof.Rows L2 HX RZ
def rSlF (K : PySem.W.Frag) : V → Option Int → Option Int → Hp → VK → Prop := fun x lo hi H Q => ∃ a xs, x = .ref a ∧ SqT K H a xs ∧
  ¬ (HT.sIx xs.length 0 lo = 0 ∧ HT.sIx xs.length xs.length hi = xs.length) ∧ ∀ (p : Addr) (o : Obj), H p = none → o.dict = none → Q (.ref p) (upd H p (.frz o (.tup (cutV xs lo hi))))
theorem sl_tupF {X : Cx} : SlR X (rSlF X.K) := by
  rintro pins c σ G x v vl vu lo hi sl Q I rx hs pl pu ⟨a, xs, rfl, hx, nw, q⟩
  cases rx
  obtain ⟨its, r, ht, hz⟩ := I.tuple hx
  have e : its.toArray.size = xs.length := by
    rw [List.size_toArray]
    exact r.length.symm
  refine ⟨"tuple", _, PyProof.Rows.slot_tuple_getitem.lookup, ht.typeIs, ?_⟩
  refine HT.getItem_tuple_cut ht hs pl pu (by rw [e]; exact nw) ?_ (by rw [e]; exact hz)
  rw [e]
  have rel := (r.drop (HT.sIx xs.length 0 lo)).take (HT.sIx xs.length xs.length hi - HT.sIx xs.length 0 lo)
  let ob : Obj := { cls := .type "tuple", data := .seq (List.take (HT.sIx xs.length xs.length hi - HT.sIx xs.length 0 lo) (List.drop (HT.sIx xs.length 0 lo) its.toArray.toList)).toArray }
  refine ⟨.ref c.heap.objs.size, upd G c.heap.objs.size (.frz ob (.tup (cutV xs lo hi))), I.laid (t' := c.toks) (o := .frz ob (.tup (cutV xs lo hi))) (fun b u z => Heap.get?_push_of_some _ z) (Nat.le_refl _) ?_, rfl, q _ ob (I.hok.fresh (Nat.le_refl _)) rfl⟩
  exact ⟨Heap.get?_push_size _ rfl, Nat.le_trans (cutV_length xs lo hi) hz, _, rel, IsTup.new _ _⟩
end RU
/-! ### t.index(k), t a tuple of whole numbers -/
namespace RU
open PySem PySem.Spec PyProof.Rows L2 HX RZ
theorem mt_tindexI {X : Cx} : MtR X "tuple.index" (fun x xs H Q => ∃ (p : Addr) (ns : List Int) (k : Int), x = .ref p ∧ xs = [.int k] ∧ SqT X.K H p (ns.map V.int) ∧ k ∈ ns ∧ Q (.int (ns.idxOf k : Nat)) H) := by
  rintro pins c σ G x xs v us Q I rx rs ⟨p, ns, k, rfl, rfl, hq, hk, q⟩
  cases rx
  obtain ⟨u, rfl, t, rfl⟩ := vals1 rs
  obtain ⟨its, r, ⟨ob, ho, hc, n, hd⟩, hz⟩ := I.tuple hq
  obtain ⟨cls, dat, dd, sl⟩ := ob
  dsimp only at hc hd
  subst hc hd
  have hj := List.idxOf_lt_length_of_mem hk
  have sz : its.toArray.size = ns.length := by rw [List.size_toArray, ← r.length, List.length_map]
  have item : ∀ (m : Nat) (hm : m < its.toArray.size), ∃ y t', ns[m]? = some y ∧ its.toArray[m] = Value.int y t' := by
    intro m hm
    have hm2 : m < ns.length := by omega
    obtain ⟨w, hw, t', e⟩ := r.get (i := m) (x := .int ns[m]) (by simp [hm2])
    refine ⟨ns[m], t', List.getElem?_eq_getElem hm2, ?_⟩
    rw [← e]
    simpa using (List.getElem?_eq_some_iff.mp hw).2
  refine call_meets PySem.F.slot_tuple_index ⟨_, ho, rfl⟩ PySem.F.entry_tuple_index (PySem.F.args_tuple_index_2 _ _) (TI.tuple_indexAt p its.toArray n _ _ (.int k t) (eqU (.int k)) (ns.idxOf k) (by omega) ?_ ?_) ⟨ho, ?_, ⟨.int (ns.idxOf k : Nat), G, I.tok _, ⟨_, rfl⟩, q⟩⟩
  · obtain ⟨y, t', h1, h2⟩ := item (ns.idxOf k) (by omega)
    rw [h2]
    have e : ns[ns.idxOf k]? = some k := by
      rw [List.getElem?_eq_getElem hj]
      exact congrArg some (List.getElem_idxOf hj)
    rw [e] at h1
    cases h1
    exact beq_self_eq_true k
  · intro m hm hmj
    obtain ⟨y, t', h1, h2⟩ := item m hm
    rw [h2]
    refine beq_eq_false_iff_ne.mpr fun e => ?_
    subst e
    have z := List.not_of_lt_findIdx (p := (· == y)) (xs := ns) (i := m) hmj
    rw [(List.getElem?_eq_some_iff.mp h1).2] at z
    simp at z
  · intro w hw
    exact mem_eqAt (x := .int k) ⟨t, rfl⟩ rfl r (by rw [List.all_map]; exact List.all_eq_true.mpr fun _ _ => rfl) w (by simpa using hw)
end RU
/-! ### a method of a tuple, of which one knows that it has no dict -/
namespace RU
open PySem PySem.Spec PyProof.Rows L2 HX RZ
def tBMF (r : V → List V → Hp → VK → Prop) (to : TE) (t : TA) : TE := fun σ H Q => to σ H fun x H1 => (∃ (a : Addr) (ob : Obj) (xs : List V), x = .ref a ∧ H1 a = some (.frz ob (.tup xs)) ∧ ob.dict = none) ∧ t σ H1 fun vs H2 => r x vs H2 Q
theorem pe_bmF {X : Cx} {name id : String} {r : V → List V → Hp → VK → Prop} {o e : Expr} {es : List Expr} {apos cpos : Pos} {to : TE} {t : TA} (slot : Slot "tuple" name id) (hty : typeOf (.builtin id) = pure (.type "method_descriptor")) (hm : MtR X id r) (ho : PE X o to) (ha : PA X (e :: es) t)
    (hb : attributeBase o name X.env (eval o X.env) = eval o X.env := by rfl)
    (hf : ((backTo cpos (starEach (e :: es) X.env)).all (fun x => !x.1) && (backToKw cpos (keywordEach [] X.env)).all (fun x => x.1.isSome) && decide ((e :: es).length + ([] : List Keyword).length + (if ([] : List Keyword).isEmpty then 0 else 1) < 30)) = true := by rfl)
    (hl : (apos.endLine == cpos.line) = true := by rfl) (hs : starEach (e :: es) X.env = (false, eval e X.env) :: starEach es X.env := by rfl) (hp : (backTo cpos (starEach es X.env)).any (·.1) = false := by rfl) :
    PE X (.Call (.Attribute o name apos) (e :: es) [] cpos) (tBMF r to t) := by
  refine ⟨fun pins c σ G Q I h => ?_⟩
  refine wpAny_Call_method_late hb hf hl rfl ?_
  refine thn (ho.run pins c σ G _ I h) ?_
  rintro v c1 ⟨x, G1, J, rx, ⟨a, ob, xs, rfl, hx, hd⟩, q⟩
  cases rx
  obtain ⟨hg, _, its, _, tp⟩ := J.hok a _ hx
  refine ⟨"tuple", id, PySem.F.plainAttrs_tuple, slot, hty, tp.typeIs, fun b z => ?_, ?_⟩
  · cases z
    exact ⟨ob, hg, hd⟩
  have run := ha.run cpos pins c1 σ G1 _ J q
  rw [hs] at run ⊢
  refine Calls.callWith_builtin ?_ (Calls.evalArgs_plain ?_)
  · show (false || (backTo cpos (starEach es X.env)).any (·.1)) = false
    rw [hp]
    rfl
  · exact thn run fun us c2 ⟨vs, G2, J2, r2, q2⟩ => hm pins c2 σ G2 (.ref a) vs _ us Q J2 rfl r2 q2
end RU
/-! ### t + u, t not empty: a new tuple, of which one knows that it has no dict, or t itself -/
namespace RU
open PySem PySem.Spec PyProof.Rows L2 HX RZ
def rCatF (K : PySem.W.Frag) : R2 := fun x y H Q => ∃ a b xs ys, x = .ref a ∧ y = .ref b ∧ SqT K H a xs ∧ SqT K H b ys ∧ xs ≠ [] ∧ xs.length + ys.length ≤ sizeLine ∧
  (ys = [] → Q (.ref a) H) ∧ (ys ≠ [] → ∀ (p : Addr) (o : Obj), H p = none → o.dict = none → Q (.ref p) (upd H p (.frz o (.tup (xs ++ ys)))))
theorem op_catF {X : Cx} : OpR X (binaryOp .Add) (rCatF X.K) := by
  intro pins s σ H x y v u Q I rx ry h
  obtain ⟨a, b, xs, ys, rfl, rfl, ha, hb, hx, hz, q1, q2⟩ := h
  cases rx
  cases ry
  obtain ⟨its, r1, p1, _⟩ := I.tuple ha
  obtain ⟨its2, r2, p2, _⟩ := I.tuple hb
  refine HT.cat_tup p1 p2 (fun z => hx (r1.nil_iff.mp z)) (fun z => ⟨.ref a, H, I, rfl, q1 (r2.nil_iff.mp z)⟩) (fun z => ?_) (by rw [← r1.length, ← r2.length]; exact hz)
  let ob : Obj := { cls := .type "tuple", data := .seq (its ++ its2).toArray }
  refine ⟨.ref s.heap.objs.size, upd H s.heap.objs.size (.frz ob (.tup (xs ++ ys))), I.laid (t' := s.toks) (o := .frz ob (.tup (xs ++ ys))) (fun b ob q => Heap.get?_push_of_some _ q) (Nat.le_refl _) ?_, rfl, q2 (fun w => z (r2.nil_iff.mpr w)) _ ob (I.hok.fresh (Nat.le_refl _)) rfl⟩
  exact ⟨Heap.get?_push_size _ rfl, by rw [List.length_append]; exact hz, _, r1.append r2, IsTup.new _ _⟩
/-- a part of a tuple: a new one, told as one likes -/
theorem sl_tupV {X : Cx} : SlR X (fun x lo hi H Q => (∃ a xs, x = .ref a ∧ SqT X.K H a xs ∧ ¬ (HT.sIx xs.length 0 lo = 0 ∧ HT.sIx xs.length xs.length hi = xs.length) ∧ ∀ p, H p = none → Q (.ref p) (upd H p (.tup (cutV xs lo hi)))) ∨ rSlF X.K x lo hi H Q) := by
  rintro pins c σ G x v vl vu lo hi sl Q I rx hs pl pu (h | h)
  · exact sl_tup pins c σ G x v vl vu lo hi sl Q I rx hs pl pu h
  · exact sl_tupF pins c σ G x v vl vu lo hi sl Q I rx hs pl pu h
end RU
/-! ### sums of tuples, told alike whatever part is empty -/
namespace RU
open PySem PySem.Spec PyProof.Rows L2 HX RZ
def rCatG (K : PySem.W.Frag) : R2 := fun x y H Q => ∃ a b xs ys o, x = .ref a ∧ y = .ref b ∧ H a = some (.frz o (.tup xs)) ∧ o.dict = none ∧ SqT K H b ys ∧ xs ≠ [] ∧ xs.length + ys.length ≤ sizeLine ∧
  ∀ (p : Addr) (o : Obj) (H' : Hp), Same H H' → H' p = some (.frz o (.tup (xs ++ ys))) → o.dict = none → Q (.ref p) H'
theorem op_catG {X : Cx} : OpR X (binaryOp .Add) (rCatG X.K) := by
  intro pins s σ H x y v u Q I rx ry h
  obtain ⟨a, b, xs, ys, o, rfl, rfl, ha, ho, hb, hx, hz, q⟩ := h
  refine op_catF pins s σ H _ _ v u Q I rx ry ⟨a, b, xs, ys, rfl, rfl, .inl (.inr ⟨o, ha⟩), hb, hx, hz, fun z => q a o H (Same.refl H) (by rw [z, List.append_nil]; exact ha) ho, fun _ p o2 hp ho2 => q p o2 _ (same_new hp) upd_same ho2⟩
def rCatR (K : PySem.W.Frag) : R2 := fun x y H Q => ∃ a b xs ys, x = .ref a ∧ y = .ref b ∧ SqT K H a xs ∧ H b = some (.tup ys) ∧ ys ≠ [] ∧ xs.length + ys.length ≤ sizeLine ∧
  ∀ (p : Addr) (H' : Hp), Same H H' → H' p = some (.tup (xs ++ ys)) → Q (.ref p) H'
theorem op_catR {X : Cx} : OpR X (binaryOp .Add) (rCatR X.K) := by
  intro pins s σ H x y v u Q I rx ry h
  obtain ⟨a, b, xs, ys, rfl, rfl, ha, hb, hy, hz, q⟩ := h
  refine op_catA pins s σ H _ _ v u Q I rx ry ⟨a, b, xs, ys, rfl, rfl, ha, SqT.of hb, hz, fun z => q b H (Same.refl H) (by rw [z]; exact hb), fun _ z => (hy z).elim, fun _ _ p hp => q p _ (same_new hp) upd_same⟩
def rCatL (K : PySem.W.Frag) : R2 := fun x y H Q => ∃ a b xs ys, x = .ref a ∧ y = .ref b ∧ H a = some (.tup xs) ∧ SqT K H b ys ∧ xs ≠ [] ∧ xs.length + ys.length ≤ sizeLine ∧
  ∀ (p : Addr) (H' : Hp), Same H H' → H' p = some (.tup (xs ++ ys)) → Q (.ref p) H'
theorem op_catL {X : Cx} : OpR X (binaryOp .Add) (rCatL X.K) := by
  intro pins s σ H x y v u Q I rx ry h
  obtain ⟨a, b, xs, ys, rfl, rfl, ha, hb, hx, hz, q⟩ := h
  refine op_catA pins s σ H _ _ v u Q I rx ry ⟨a, b, xs, ys, rfl, rfl, SqT.of ha, hb, hz, fun z => (hx z).elim, fun _ z => q a H (Same.refl H) (by rw [z, List.append_nil]; exact ha), fun _ _ p hp => q p _ (same_new hp) upd_same⟩
end RU
/-! ### == and != of data, the fragment named -/
namespace RU
open PySem PySem.Spec PyProof.Rows L2 HX RZ
theorem eqDK {X : Cx} (K : PySem.W.Frag) (hu : X.A.units + 64 < cLine) (h : X.K = K := by rfl) : OpR X (compareOp .Eq) (rEqD K) := h ▸ op_eqD hu
theorem neDK {X : Cx} (K : PySem.W.Frag) (hu : X.A.units + 64 < cLine) (h : X.K = K := by rfl) : OpR X (compareOp .NotEq) (rNeD K) := h ▸ op_neD hu
end RU

namespace RP
open PySem PySem.Spec PyProof.Rows L2 RZ HX
/-- repr of a truth -/
theorem call_reprBl {X : Cx} : CallR X (.builtin "repr") (fun xs H Q => ∃ b : Bool, xs = [.bl b] ∧ Q (.str (if b then "True" else "False")) H) := by
  intro pins s σ H xs us Q I r h
  obtain ⟨b, rfl, q⟩ := h
  obtain ⟨u, rfl, rx⟩ := vals1 r
  obtain rfl : u = Value.bool b := rx
  exact PySem.P.repr_of_bool ⟨.str (if b then "True" else "False"), H, I.tok _, ⟨_, rfl⟩, q⟩
end RP

/-! ### set(xs) of a list of whole numbers -/
namespace RU
open PySem PySem.Spec PyProof.Rows L2 HX RZ
section
variable {P : Program} {w : World} {A : Around} {E : Value → Shared → Prop} {s : Shared}
/-- the object of a set just made -/
abbrev newSet (w : World) : Obj := { cls := .type "set", dict := none, data := .set #[] 0 (.fresh 0 0 (!w.params.followText "set-order")) }
set_option maxRecDepth 100000 in
set_option maxHeartbeats 3200000 in
theorem set_ints {l : Addr} {its : Array Value} (ks : List Int) {Q : Value → Shared → Prop} (nh : A.handled = none) (il : s.heap.IsList l its) (ii : IntsAre its.toList ks) (few : ks.length + 1 < scanBound)
    (go : ∀ (g : Heap) (tk c : Nat), SetR w g s.heap.objs.size (fun j => decide (j ∈ ks)) c → c ≤ ks.length → (∀ b o, s.heap.get? b = some o → g.get? b = some o) → Q (.ref s.heap.objs.size) { s with heap := g, toks := tk }) :
    wpAny (model P w) A (call (.type "set") [.ref l]) Q E s := by
  have sz : its.size = ks.length := (Array.length_toList (xs := its)).symm.trans (IntsAre.length ii)
  obtain ⟨cm, tm, mro⟩ := F.called_set.mro
  have made := F.called_set.made; have subs := F.called_set.sub
  refine wpAny_call (codeAny_of_tree ?_); show wpAny _ _ (callAny (.type "set") _) _ _ _
  refine wpAny_pure ⟨Code.quiet_builtin _ (by decide +kernel), codeAny_builtin PySem.F.entry_type_call ?_⟩; rw [Around.under_plain (weight_type_call_type "set" [.ref l] []) rfl]
  have f1 := F.called_set.notType; have f2 := F.called_set.canCreate; have f3 := F.typeCall_set_1 (.ref l)
  repeat (any_goals (first | assumption | wp_step))
  refine codeAny_mono (code_set_led1 (.ref l) (E := E) (Q₁ := fun u z => u = .ref s.heap.objs.size ∧ z = { s with heap := s.heap.push (newSet w) }) ⟨rfl, rfl⟩) fun r z hz => ?_
  match r, hz with
  | .error _, hz => exact hz
  | .ok (.ret u), hz =>
    obtain ⟨rfl, rfl⟩ := hz
    have at0 : (s.heap.push (newSet w)).get? s.heap.objs.size = some (newSet w) := Heap.get?_push_size _ rfl
    have isT : Shared.TypeIs { s with heap := s.heap.push (newSet w) } (.ref s.heap.objs.size) "set" := ⟨_, at0, rfl⟩
    have f4 := F.called_set.init.lookup; have f5 := F.called_set.init.bind (.ref s.heap.objs.size)
    repeat (any_goals (first | assumption | wp_step))
    refine codeAny_mono (codeAny_call_builtin (R := wants (fun r z => r = .none ∧ ∃ g tk c, z = { s with heap := g, toks := tk } ∧ SetR w g s.heap.objs.size (fun j => decide (j ∈ ks)) c ∧ c ≤ ks.length ∧
        (∀ b o, s.heap.get? b = some o → g.get? b = some o)) E) F.called_set.init.plain F.entry_set_init (check_set_init_1 isT ?_)) fun r2 z2 hz2 => ?_
    · obtain ⟨⟨oc, od, odat, osl⟩, hg, hc, nn, hd⟩ := il
      simp only at hc hd; subst hc; subst hd
      have hg' : (s.heap.push (newSet w)).get? l = some { cls := .type "list", dict := od, data := .seq its nn, slots := osl } := Heap.get?_push_of_some _ hg
      have u1 := F.sub_list_set; have u2 := F.sub_list_frozenset
      have u3 : (Value.type "list" == Value.type "dict") = false := by decide
      have il1 : (s.heap.push (newSet w)).IsList l its := ⟨_, hg', rfl, nn, rfl⟩
      unfold Builtin.«set.__init__» noKeywords Builtin.Frozenset.updateFrom; generalize hPy : pyIter = Py; wp_walk; subst hPy
      refine wpAny_pyIter_list il1 (wpAny_bind (wpAny_runValue ?_))
      have lt : l < s.heap.objs.size := Heap.lt_size hg
      have nh3 : A.in1.in1.in1.handled = none := by simp [nh]
      have ne : l ≠ (s.heap.push (newSet w)).objs.size := by rw [Heap.size_push]; exact Nat.ne_of_lt (Nat.lt_succ_of_lt lt)
      have nf : s.heap.objs.size ∉ [(s.heap.push (newSet w)).objs.size, l] := by
        rw [Heap.size_push]
        exact fun z => (List.mem_cons.mp z).elim (fun y => Nat.ne_of_lt (Nat.lt_succ_self _) y) fun y => Nat.ne_of_gt lt (List.mem_singleton.mp y)
      have vals : ∀ (i : Nat) (v : Value), its[i]? = some v → ∃ k t, ks[i]? = some k ∧ v = .int k t := fun i v hv => by
        have hi : i < ks.length := by rw [← sz]; exact (Array.getElem?_eq_some_iff.mp hv).1
        obtain ⟨t, e⟩ := IntsAre.int_at ii i v (by rw [Array.getElem?_toList]; exact hv)
        exact ⟨ks[i], t, List.getElem?_eq_getElem hi, by rw [e, List.getD_eq_getElem?_getD, List.getElem?_eq_getElem hi] <;> rfl⟩
      refine set_update_ints ((Walks.list nh3 _ l ne its).toS) s.heap.objs.size nf ks sz few vals (its.size - 0) 0 _ (by omega) (Nat.zero_le _) ⟨⟨_, Heap.get?_push_size _ rfl, rfl, rfl⟩, (il1.push _)⟩ ⟨0, Nat.le_refl 0, setR_new_at (Heap.get?_push_of_some _ at0)⟩ ?_
      rintro ⟨g, g2, d2, tk2, os2⟩ c mv hc2 hS
      obtain rfl : g2 = s.gens := mv.gens; obtain rfl : d2 = s.drawn := mv.drawn; obtain rfl : os2 = s.os := mv.os
      show wpAny _ _ _ _ _ _
      refine wpAny_pure ?_; show wpAny _ _ (ret Value.none) _ _ _
      rw [sz] at hc2
      refine wpAny_pure ⟨rfl, g, tk2, c, rfl, hS, hc2, fun b o e => ?_⟩
      have b0 := Heap.lt_size e
      exact mv.heap b o (by
        rw [Heap.size_push]
        exact fun z => (List.mem_cons.mp z).elim (fun y => Nat.ne_of_lt b0 y) fun y => Nat.ne_of_lt (Nat.lt_succ_of_lt b0) (List.mem_singleton.mp y)) (Heap.get?_push_of_some _ (Heap.get?_push_of_some _ e))
    · match r2, hz2 with
      | .error _, hz2 => exact hz2
      | .ok (.ret u2), hz2 =>
        obtain ⟨rfl, g, tk2, c, rfl, hS, hc2, keep⟩ := hz2
        repeat (any_goals (first | assumption | wp_step))
        exact go _ _ _ hS hc2 keep
end
section
variable {X : Cx}
def rSetL (K : PySem.W.Frag) (w : World) : List V → Hp → VK → Prop := fun xs H Q => ∃ (l : Addr) (ks : List Int), xs = [.ref l] ∧ SqL K H l (ks.map V.int) ∧ ks.length + 1 < scanBound ∧ ∀ (p : Addr) (c : Nat) (H' : Hp), c ≤ ks.length → Same H H' → H p = none → H' p = some (SetO w p (fun j => decide (j ∈ ks)) c) → Q (.ref p) H'
theorem call_setL (hc : X.calm = true) : CallR X (.type "set") (rSetL X.K X.w) := by
  intro pins s σ H xs us Q I r h
  obtain ⟨l, ks, rfl, hq, few, q⟩ := h
  rw [Vals.ref1 r]
  obtain ⟨its, rv, pl, hz⟩ := I.list hq
  refine set_ints ks (I.ok.hd hc) pl.isList (by simpa using ints_of_vals rv) few fun g tk c hS hc2 keep => ?_
  exact ⟨.ref s.heap.objs.size, _, I.laid (t' := tk) keep (Nat.le_refl _) (setO_new hS), rfl, q _ c _ hc2 (same_new (I.hok.fresh (Nat.le_refl _))) (I.hok.fresh (Nat.le_refl _)) upd_same⟩
/-- sorted(set) -/
def rSortSet (w : World) : List V → Hp → VK → Prop := fun vs H Q => ∃ (a : Addr) (S : Int → Bool) (n : Nat), vs = [V.ref a] ∧ H a = some (SetO w a S n) ∧ n < 64 ∧
  ∀ (ns : List Int) (p : Addr) (H' : Hp), ns.Pairwise (· < ·) → (∀ k : Int, k ∈ ns ↔ S k = true) → ns.length = n → Same H H' → H p = none → H' p = some (.lst (ns.map V.int)) → Q (.ref p) H'
theorem cr_sortedSetO (hc : X.calm = true) : CallR X (.builtin "sorted") (rSortSet X.w) := fun pins s σ H vs us Q I r ⟨a, S, n, e, ha, hn, q⟩ =>
  cr_sortedSet hc pins s σ H vs us Q I r ⟨a, S, n, e, ha, hn, fun ns p h1 h2 h3 hp => q ns p _ h1 h2 h3 (same_new hp) hp upd_same⟩
end
end RU
/-! ### t + u, tuples, whatever part is empty -/
namespace RU
open PySem PySem.Spec PyProof.Rows L2 HX RZ
def rCatS (K : PySem.W.Frag) : R2 := fun x y H Q => ∃ a b xs ys, x = .ref a ∧ y = .ref b ∧ SqT K H a xs ∧ SqT K H b ys ∧ xs.length + ys.length ≤ sizeLine ∧ ∀ (p : Addr) (H' : Hp), Same H H' → SqT K H' p (xs ++ ys) → Q (.ref p) H'
theorem op_catS {X : Cx} : OpR X (binaryOp .Add) (rCatS X.K) := by
  intro pins s σ H x y v u Q I rx ry h
  obtain ⟨a, b, xs, ys, rfl, rfl, ha, hb, hz, q⟩ := h
  refine op_catA pins s σ H _ _ v u Q I rx ry ⟨a, b, xs, ys, rfl, rfl, ha, hb, hz, fun z => q b H (Same.refl H) (by rw [z]; exact hb), fun _ z => q a H (Same.refl H) (by rw [z, List.append_nil]; exact ha), fun _ _ p hp => q p _ (same_new hp) (SqT.of upd_same)⟩
end RU
/-! ### new things, the heap behind not written out -/
namespace RU
open PySem PySem.Spec PyProof.Rows L2 HX RZ
def FzT (H : Hp) (a : Addr) (xs : List V) : Prop := ∃ o : Obj, H a = some (.frz o (.tup xs)) ∧ o.dict = none
section
variable {X : Cx} {es : List Expr} {t : TA} {pos : Pos}
def tTupS (t : TA) : TE := fun σ H Q => t σ H fun xs H1 => xs.length ≤ sizeLine ∧ ∀ (p : Addr) (H' : Hp), Same H1 H' → H1 p = none → FzT H' p xs → Q (.ref p) H'
theorem pe_tupS {x1 : Nat} (h : PA X es t) : PE X (.Tuple es x1 pos) (tTupS t) := by
  refine ⟨fun pins s σ H Q I hq => ?_⟩
  refine wpAny_Tuple_spliced ?_
  refine thn (h.run pos pins s σ H _ I hq) ?_
  rintro us c ⟨xs, G, J, rel, few, go⟩
  refine ⟨by rw [← rel.length]; exact few, ?_⟩
  have free : G c.heap.objs.size = none := J.hok.fresh (Nat.le_refl _)
  have J2 : Inv X pins σ (upd G c.heap.objs.size (.frz { cls := .type "tuple", data := .seq us.toArray } (.tup xs))) { c with heap := c.heap.push { cls := .type "tuple", data := .seq us.toArray } } :=
    J.laid (t' := c.toks) (fun b u e => Heap.get?_push_of_some _ e) (Nat.le_refl _) (show ObjOk X.prog X.w _ _ _ (.frz _ (.tup xs)) from ⟨Heap.get?_push_size _ rfl, few, us, rel, _, Heap.get?_push_size _ rfl, rfl, _, rfl⟩)
  exact ⟨.ref c.heap.objs.size, _, J2, rfl, go _ _ (same_new free) free ⟨_, upd_same, rfl⟩⟩
def tLstS (t : TA) : TE := fun σ H Q => t σ H fun xs H1 => xs.length ≤ sizeLine ∧ ∀ (p : Addr) (H' : Hp), Same H1 H' → H1 p = none → H' p = some (.lst xs) → Q (.ref p) H'
theorem pe_lstS (h : PA X es t) : PE X (.List es pos) (tLstS t) := by
  refine ⟨fun pins s σ H Q I hq => ?_⟩
  refine wpAny_List_spliced ?_
  refine thn (h.run pos pins s σ H _ I hq) ?_
  rintro us c ⟨xs, G, J, rel, few, go⟩
  refine ⟨by rw [← rel.length]; exact few, ?_⟩
  have free : G c.heap.objs.size = none := J.hok.fresh (Nat.le_refl _)
  exact ⟨.ref c.heap.objs.size, _, J.lnew (t' := c.toks) rel few, rfl, go _ _ (same_new free) free upd_same⟩
theorem op_catLS : OpR X (binaryOp .Add) (fun x y H Q => ∃ l b xs zs, x = .ref l ∧ y = .ref b ∧ H l = some (.lst xs) ∧ H b = some (.lst zs) ∧ xs.length + zs.length ≤ sizeLine ∧ ∀ (p : Addr) (H' : Hp), Same H H' → H p = none → H' p = some (.lst (xs ++ zs)) → Q (.ref p) H') :=
  fun pins s σ H x y v u Q I rx ry ⟨l, b, xs, zs, h1, h2, h3, h4, h5, q⟩ => op_cat pins s σ H x y v u Q I rx ry ⟨l, b, xs, zs, h1, h2, h3, h4, h5, fun p hp => q p _ (same_new hp) hp upd_same⟩
theorem sl_lstS : SlR X (fun x lo hi H Q => ∃ a xs, x = .ref a ∧ SqL X.K H a xs ∧ ∀ (p : Addr) (H' : Hp), Same H H' → H p = none → H' p = some (.lst (cutV xs lo hi)) → Q (.ref p) H') :=
  fun pins s σ H x v vl vu lo hi sl Q I rx hs pl pu ⟨a, xs, h1, h2, q⟩ => sl_list pins s σ H x v vl vu lo hi sl Q I rx hs pl pu ⟨a, xs, h1, h2, fun p hp => q p _ (same_new hp) hp upd_same⟩
theorem call_tupS : CallR X (.type "tuple") (fun xs H Q => ∃ p ys, xs = [.ref p] ∧ SqL X.K H p ys ∧ ∀ (l : Addr) (H' : Hp), Same H H' → H l = none → FzT H' l ys → Q (.ref l) H') :=
  fun pins s σ H xs us Q I r ⟨p, ys, h1, h2, q⟩ => call_tupF pins s σ H xs us Q I r ⟨p, ys, h1, h2, fun l o hl ho => q l _ (same_new hl) hl ⟨o, upd_same, ho⟩⟩
theorem call_lstS : CallR X (.type "list") (fun xs H Q => ∃ p ys, xs = [.ref p] ∧ (SqL X.K H p ys ∨ SqT X.K H p ys) ∧ ∀ (l : Addr) (H' : Hp), Same H H' → H l = none → H' l = some (.lst ys) → Q (.ref l) H') :=
  fun pins s σ H xs us Q I r ⟨p, ys, h1, h2, q⟩ => call_list_of pins s σ H xs us Q I r ⟨p, ys, h1, h2, fun l hl => q l _ (same_new hl) hl upd_same⟩
theorem call_dictS (hcalm : X.calm = true) : CallR X (.type "dict") (fun xs H Q => ∃ (a : Addr) (o : Obj) (ps : List Addr) (kvs : List (Key × V)), xs = [.ref a] ∧ H a = some (.frz o (.tup (ps.map V.ref))) ∧ o.dict = none ∧ Paired (fun p kv => SqT X.K H p [kV kv.1, kv.2]) ps kvs ∧
    ∀ (p : Addr) (H' : Hp), Same H H' → H p = none → H' p = some (.dK (mergeK [] kvs)) → Q (.ref p) H') :=
  fun pins s σ H xs us Q I r ⟨a, o, ps, kvs, h1, h2, h3, h4, q⟩ => call_dictT hcalm pins s σ H xs us Q I r ⟨a, o, ps, kvs, h1, h2, h3, h4, fun p hp => q p _ (same_new hp) hp upd_same⟩
end
end RU

/-! ### a call of a def that wants to know that nothing is being shown -/
namespace RP
open PySem PySem.Spec PyProof.Rows L2 HX RZ
section
variable {X : Cx} {CX : CXT} {k : Nat} {f : Addr} {fd : FuncData} {ps : List Str} {sp : Sp} {dvs : List V} {ds : List Value} {E : XK} {x : Str} {e : Expr} {es : List Expr} {t : TA} {p pos : Pos}
theorem pe_callG (F : FnOkG X.prog X.w X.K X.mg X.base CX k f fd ps sp) (len : ∀ vs H Q E, sp vs H Q E → vs.length = ps.length) (gd : X.A.guards = some []) (hr : Room k X.A) (hg : Gl X x) (hm : X.mg x = some (.ref f)) (hk : PySem.W.keepIn X.K (.ref f) = true) (hb : Binds X.K fd ps ds) (hd : Vals dvs ds) (hx : Passes CX X E)
    (ha : PA X (e :: es) t) (hdb : (x == ("__debug__" : Str)) = false := by decide) (he : starEach (e :: es) X.env = (false, eval e X.env) :: starEach es X.env := by rfl) (hpl : (backTo pos (starEach es X.env)).any (·.1) = false := by rfl) :
    PE X (.Call (.Name x p) (e :: es) [] pos) (tCall sp dvs E t) := by
  refine ⟨fun pins s σ H Q I h => wpAny_Call_Name_kw (ld_glob I hg hm ?_ hdb)⟩
  refine PySem.W.callWith_K (h₀ := X.base) I.ok.mod.kin hk (thn (ha.run pos pins s σ H _ I h) fun us c ⟨vs, G, J, r, q⟩ => ⟨J.kIn, ?_⟩) he hpl
  have rr : Vals (vs ++ dvs) (us ++ ds) := r.append hd
  have hl : (us ++ ds).length = ps.length := by rw [← rr.length]; exact len _ _ _ _ q
  refine wpAny_call (codeAny_mono (F.go X.A X.stack c G (us ++ ds) (vs ++ dvs) Q E ⟨us, []⟩ gd hr J.env0 (hb c us J.kIn hl) rr q) fun r c' z => ?_)
  match r, z with
  | .error e, z => exact hx pins σ G c e c' J z
  | .ok (.ret u), z => exact J.after z
theorem kw_only {n : Nat} {ks : List Str} {kws : List Keyword} {tk : TA} {g : List Value → List Value → List Value} {gV : List V → List V → List V} (F : FnOk X.prog X.w X.K X.mg X.base CX k f fd ps sp) (hr : Room k X.A) (hg : Gl X x) (hm : X.mg x = some (.ref f)) (hk : PySem.W.keepIn X.K (.ref f) = true) (hb : KBn X.K fd ps n ks g gV) (hx : Passes CX X E)
    (hkw : PK X kws tk) (hall : (backToKw pos (keywordEach kws X.env)).all (·.1.isSome) = true := by rfl) (hks : (backToKw pos (keywordEach kws X.env)).filterMap (·.1) = ks := by rfl) (hdb : (x == ("__debug__" : Str)) = false := by decide)
    (hpl : ((backTo pos (starEach [] X.env)).any (·.1) || (backToKw pos (keywordEach kws X.env)).any (·.1.isNone)) = false := by rfl) :
    PE X (.Call (.Name x p) [] kws pos) (tCallN n ks.length sp gV E tNil tk) := by
  refine ⟨fun pins s σ H Q I h => wpAny_Call_Name_kw (ld_glob I hg hm ?_ hdb)⟩
  refine PySem.W.callWith_KW0 (h₀ := X.base) I.ok.mod.kin hk hall ?_ hpl
  refine thn (hkw.run pos pins s σ H _ I h) fun ws c ⟨zs, G, J, rz, l1, l2, q⟩ => ⟨J.kIn, ?_⟩
  rw [hks]
  exact run_fnN (us := []) F hr hb hx J .nil rz l1 l2 q
end
theorem pi_lstK {X : Cx} (K : PySem.W.Frag) {tg l : Expr} {tl : TE} (hl : PE X l tl) (h : X.K = K := by rfl) : PI X tg l (iList K tl) := by
  subst h
  exact pi_list hl
/-- a walk over one thing or another -/
theorem pi_or {X : Cx} {tg l : Expr} {t1 t2 : TI} (h1 : PI X tg l t1) (h2 : PI X tg l t2) : PI X tg l (fun σ H R => t1 σ H R ∨ t2 σ H R) :=
  ⟨fun pins s σ H R I h => h.elim (h1.run pins s σ H R I) (h2.run pins s σ H R I)⟩
theorem pi_seq {X : Cx} {tg l : Expr} {tl : TE} (hl : PE X l tl) : PI X tg l (fun σ H R => iList X.K tl σ H R ∨ iTup X.K tl σ H R) := pi_or (pi_list hl) (pi_tup hl)
end RP

/-! ### x == a text, x any thing that is tracked, a dict too -/
namespace EQT
open PySem PySem.Spec PyProof.Rows L2 PySem.SeqAt
theorem str_eq_declines_any (b : Str) (u : Tok) (l : Addr) (o : Obj) (hc : o.cls = .type "dict") (es : Array DictEntry) (n : Nat) (hd : o.data = .dict es n) :
    Meets (Builtin.«str.__eq__» ⟨[.str b u, .ref l], []⟩) (fun _ R s => s.heap.get? l = some o ∧ R (.ok (.ret .notImplemented)) s) := by
  obtain ⟨cls, dd, data, sl⟩ := o
  simp only at hc hd
  subst hc hd
  exact .of_wp fun prog w A R s h => by obtain ⟨hp, g, d, tk, os⟩ := s; obtain ⟨hl, h⟩ := h; wp_walk using wpAny_loadPart' hl, wpAny_load hl; exact ⟨_, rfl, h⟩
section
variable {A : Around} {s : Shared}
theorem dict_declines {prog : Program} {w : World} {E : Value → Shared → Prop} {l : Addr} (b : Str) (u : Tok) (hl : s.TypeIs (.ref l) "dict") (F1 : Slot "dict" (cmpInfo .Eq).2.1 "dict.__eq__" ∨ True) {Q : Value → Shared → Prop} (hq : Q .notImplemented s) : wpAny (model prog w) A (call (.builtin "dict.__eq__") [.ref l, .str b u]) Q E s := by
  refine wpAny_call_entry F.slot_dict_eq hl F.entry_dict_eq ?_ (F.args_dict_eq_2 _ _)
  show wpAny _ _ (Builtin.Dict.dictSlotArgs "__eq__" ⟨[.ref l, .str b u], []⟩ >>= _) _ _ s
  refine wpAny_bind ?_
  unfold Builtin.Dict.dictSlotArgs
  refine wpAny_bind (wpAny_notOrdered_dict hl ?_)
  show wpAny _ _ (pure (Value.ref l, Value.str b u)) _ _ s
  refine wpAny_pure ?_
  refine wpAny_bind (wpAny_isInstance (T := "str") (U := "dict") (typeIs_str s b u) F.sub_str_dict ?_)
  simp only [Bool.not_false, if_true]
  exact wpAny_bind (wpAny_rule (wpAny_pure ⟨_, rfl, hq⟩))
theorem RcAt.dict_str {l : Addr} (b : Str) (u : Tok) (hlo : ∃ o es n, s.heap.get? l = some o ∧ o.cls = .type "dict" ∧ o.data = .dict es n) (hu : A.units < cLine) : RcAt A s (.ref l) (.str b u) false := fun prog w E Q h => by
  obtain ⟨o, es, n, ho, hc, hd⟩ := id hlo
  have hl : s.TypeIs (.ref l) "dict" := ⟨o, ho, hc⟩
  exact rc_eq_decline_or (k := false) hl (typeIs_str s b u) (by decide) F.sub_str_dict F.slot_dict_eq F.slot_str_eq_refl
    (fun _ hq => dict_declines b u hl (.inr trivial) hq)
    (fun _ hq => call_meets F.slot_str_eq_refl (typeIs_str s b u) F.entry_str_eq (F.args_str_eq_2 _ _) (str_eq_declines_any b u l o hc es n hd) ⟨ho, hq⟩)
    (fun _ hq => wpAny_of_eq (rfl : isSame (.ref l) (.str b u) = pure false) hq) (.inr hu) h
theorem RcAt.str_dict {l : Addr} (b : Str) (u : Tok) (hlo : ∃ o es n, s.heap.get? l = some o ∧ o.cls = .type "dict" ∧ o.data = .dict es n) (hu : A.units < cLine) : RcAt A s (.str b u) (.ref l) false := fun prog w E Q h => by
  obtain ⟨o, es, n, ho, hc, hd⟩ := id hlo
  have hl : s.TypeIs (.ref l) "dict" := ⟨o, ho, hc⟩
  exact rc_eq_decline_or (k := false) (typeIs_str s b u) hl (by decide) F.sub_dict_str F.slot_str_eq F.slot_dict_eq_refl
    (fun _ hq => call_meets F.slot_str_eq (typeIs_str s b u) F.entry_str_eq (F.args_str_eq_2 _ _) (str_eq_declines_any b u l o hc es n hd) ⟨ho, hq⟩)
    (fun _ hq => dict_declines b u hl (.inr trivial) hq)
    (fun _ hq => wpAny_of_eq (rfl : isSame (.str b u) (.ref l) = pure false) hq) (.inr hu) h
theorem EqAt.str_dict {l : Addr} (b : Str) (u : Tok) (hlo : ∃ o es n, s.heap.get? l = some o ∧ o.cls = .type "dict" ∧ o.data = .dict es n) (hu : A.units < cLine) : EqAt A s (.str b u) (.ref l) false := fun prog w E Q h => by
  unfold eqBool
  refine wpAny_holding ?_
  refine wpAny_ite_split (fun hab => absurd (eq_of_beq hab) nofun) (fun _ => ?_)
  exact wpAny_bind (RcAt.str_dict b u hlo hu prog w E _ (wpAny_truthy_bool h))
end
/-- any thing that is tracked: none, a number, a truth, a text, a list, a tuple, a dict -/
def Thg (K : PySem.W.Frag) (H : Hp) (x : V) : Prop := (∃ a xs, x = .ref a ∧ SqL K H a xs) ∨ (∃ a xs, x = .ref a ∧ SqT K H a xs) ∨ (∃ a kvs, x = .ref a ∧ H a = some (.dK kvs)) ∨ scal x (.str Str.empty) = true
/-- it is this text -/
def isStr : V → Str → Bool
  | .str t, z => decide (t = z)
  | _, _ => false
section
variable {X : Cx}
theorem dict_at {pins : List (Addr × Obj)} {σ : L2.St} {H : Hp} {s : Shared} (I : Inv X pins σ H s) {a : Addr} {kvs : List (Key × V)} (h : H a = some (.dK kvs)) : ∃ o es n, s.heap.get? a = some o ∧ o.cls = .type "dict" ∧ o.data = .dict es n := by
  obtain ⟨_, ya, va, ra, da⟩ := (show ObjOk X.prog X.w H s.heap a (.dK kvs) from I.hok a _ h)
  obtain ⟨o, es, ep, h1, h2, h3, _⟩ := da
  exact ⟨o, es, ep, h1, h2.1, h3⟩
def rEqS (K : PySem.W.Frag) : R2 := fun x y H Q => ∃ z, y = .str z ∧ Thg K H x ∧ Q (.bl (isStr x z)) H
theorem op_eqS (hu : X.A.units < cLine) : OpR X (compareOp .Eq) (rEqS X.K) := by
  intro pins s σ H x y v u Q I rx ry h
  obtain ⟨z, rfl, ht, q⟩ := h
  obtain ⟨tu, rfl⟩ := ry
  rcases ht with ⟨a, xs, rfl, ha⟩ | ⟨a, xs, rfl, ha⟩ | ⟨a, kvs, rfl, ha⟩ | hs
  · cases (show v = Value.ref a from rx)
    obtain ⟨us, r1, p1, _⟩ := I.list ha
    exact SeqAt.RcAt.list_str z tu p1.isList hu _ _ _ _ ⟨.bl _, H, I, rfl, q⟩
  · cases (show v = Value.ref a from rx)
    obtain ⟨us, r1, p1, _⟩ := I.tuple ha
    exact SeqAt.RcAt.tuple_str z tu p1 hu _ _ _ _ ⟨.bl _, H, I, rfl, q⟩
  · cases (show v = Value.ref a from rx)
    exact RcAt.dict_str z tu (dict_at I ha) hu _ _ _ _ ⟨.bl _, H, I, rfl, q⟩
  · have e : scal x (.str z) = true ∧ isStr x z = decide (x = .str z) := by
      cases x with
      | str t => exact ⟨rfl, decide_eq_decide.mpr ⟨fun h => by rw [h], fun h => by injection h⟩⟩
      | non => exact ⟨rfl, rfl⟩
      | int i => exact ⟨rfl, (decide_eq_false nofun).symm⟩
      | bl b => exact ⟨rfl, (decide_eq_false nofun).symm⟩
      | _ => exact absurd hs (by simp [scal])
    rw [e.2] at q
    exact op_eq pins s σ H x (.str z) v _ Q I rx ⟨tu, rfl⟩ ⟨e.1, q⟩
/-- a text and any thing -/
theorem eqAt_thg {pins : List (Addr × Obj)} {σ : L2.St} {H : Hp} {s : Shared} (I : Inv X pins σ H s) {A : Around} (hu : A.units < cLine) {x : V} {v : Value} (rx : RelV x v) (ht : Thg X.K H x) (z : Str) (tu : Tok) : EqAt A s (.str z tu) v (isStr x z) := by
  rcases ht with ⟨a, xs, rfl, ha⟩ | ⟨a, xs, rfl, ha⟩ | ⟨a, kvs, rfl, ha⟩ | hs
  · cases (show v = Value.ref a from rx)
    obtain ⟨us, r1, p1, _⟩ := I.list ha
    exact SeqAt.EqAt.str_list z tu p1.isList hu
  · cases (show v = Value.ref a from rx)
    obtain ⟨us, r1, p1, _⟩ := I.tuple ha
    exact SeqAt.EqAt.str_tuple z tu p1 hu
  · cases (show v = Value.ref a from rx)
    exact EqAt.str_dict z tu (dict_at I ha) hu
  · cases x with
    | str t =>
      obtain ⟨t2, rfl⟩ := rx
      have e : (z == t) = isStr (.str t) z := by
        show (z == t) = decide (t = z)
        rw [Bool.eq_iff_iff, beq_iff_eq, decide_eq_true_eq]
        exact eq_comm
      rw [← e]
      exact SeqAt.EqAt.str_str z tu t t2
    | non =>
      cases rx
      exact SeqAt.EqAt.str_none z tu
    | int i =>
      obtain ⟨t2, rfl⟩ := rx
      exact SeqAt.EqAt.str_int z tu i t2
    | bl b =>
      cases rx
      exact SeqAt.EqAt.str_bool z tu b
    | _ => exact absurd hs (by simp [scal])
def rInS (K : PySem.W.Frag) (neg : Bool) : R2 := fun x y H Q => ∃ (p : Addr) (zs : List Str), y = .ref p ∧ SqT K H p (zs.map V.str) ∧ Thg K H x ∧ Q (.bl (if neg then !(zs.any fun z => isStr x z) else zs.any fun z => isStr x z)) H
def hitU (x : V) : Value → Bool
  | .str t _ => isStr x t
  | _ => false
theorem hits_strs {x : V} : ∀ {zs : List Str} {us : List Value}, Vals (zs.map V.str) us → us.any (hitU x) = zs.any fun z => isStr x z
  | [], _, h => by cases h; rfl
  | z :: zs, _, h => by
    cases h with
    | cons r rs =>
      obtain ⟨t, rfl⟩ := r
      rw [List.any_cons, List.any_cons, hits_strs rs]
      rfl
theorem strs_mem {zs : List Str} {us : List Value} (h : Vals (zs.map V.str) us) {u : Value} (hu : u ∈ us) : ∃ z t, u = .str z t := by
  obtain ⟨j, hj⟩ := List.getElem?_of_mem hu
  have hz : ∃ y, (zs.map V.str)[j]? = some y := by
    cases e : (zs.map V.str)[j]? with
    | some y => exact ⟨y, rfl⟩
    | none =>
      rw [h.none_of e] at hj
      cases hj
  obtain ⟨y, hy⟩ := hz
  obtain ⟨u', hu', r⟩ := h.get hy
  rw [hj] at hu'
  cases hu'
  rw [List.getElem?_map] at hy
  cases hz2 : zs[j]? with
  | none => rw [hz2] at hy; cases hy
  | some z =>
    rw [hz2] at hy
    cases hy
    obtain ⟨t, rfl⟩ := r
    exact ⟨z, t, rfl⟩
theorem op_inS (hu : X.A.units + 1 < cLine) : OpR X (compareOp .In) (rInS X.K false) := by
  intro pins s σ H x y v u Q I rx ry h
  obtain ⟨p, zs, rfl, hq, ht, q⟩ := h
  cases ry
  obtain ⟨its, r, pl, hz⟩ := I.tuple hq
  refine SeqAt.in_tupleAt (hitU x) pl (fun w hw => ?_) ⟨.bl _, H, I, rfl, ?_⟩
  · obtain ⟨z, t, rfl⟩ := strs_mem r (show w ∈ its by simpa using hw)
    exact eqAt_thg I hu rx ht z t
  · rw [show its.toArray.any (hitU x) = its.any (hitU x) by simp, hits_strs r]
    exact q
theorem op_notInS (hu : X.A.units + 1 < cLine) : OpR X (compareOp .NotIn) (rInS X.K true) := by
  intro pins s σ H x y v u Q I rx ry h
  obtain ⟨p, zs, rfl, hq, ht, q⟩ := h
  cases ry
  obtain ⟨its, r, pl, hz⟩ := I.tuple hq
  refine SeqAt.notIn_tupleAt (hitU x) pl (fun w hw => ?_) ⟨.bl _, H, I, rfl, ?_⟩
  · obtain ⟨z, t, rfl⟩ := strs_mem r (show w ∈ its by simpa using hw)
    exact eqAt_thg I hu rx ht z t
  · rw [show its.toArray.any (hitU x) = its.any (hitU x) by simp, hits_strs r]
    exact q
/-- t + u, however -/
def rCatTS (K : PySem.W.Frag) : R2 := fun x y H Q => ∃ a b xs ys, x = .ref a ∧ y = .ref b ∧ SqT K H a xs ∧ SqT K H b ys ∧ xs.length + ys.length ≤ sizeLine ∧ ∀ p H', L2.Same H H' → SqT K H' p (xs ++ ys) → Q (.ref p) H'
theorem op_catTS : OpR X (binaryOp .Add) (rCatTS X.K) := by
  intro pins s σ H x y v u Q I rx ry h
  obtain ⟨a, b, xs, ys, rfl, rfl, ha, hb, hz, q⟩ := h
  refine op_catA pins s σ H _ _ v u Q I rx ry ⟨a, b, xs, ys, rfl, rfl, ha, hb, hz, fun e => ?_, fun _ e => ?_, fun _ _ p hp => q p _ (HX.same_new hp) (SqT.of upd_same)⟩
  · subst e
    exact q b H (L2.Same.refl H) hb
  · subst e
    exact q a H (L2.Same.refl H) (by rw [List.append_nil]; exact ha)
end
end EQT

/-! ### a tuple turned about: t[::-1] -/
namespace EQT
open PySem PySem.Spec PyProof.Rows L2 HT HX PySem.W
theorem fm_congr {α β : Type} {f g : α → Option β} : ∀ {l : List α}, (∀ x ∈ l, f x = g x) → l.filterMap f = l.filterMap g
  | [], _ => rfl
  | a :: l, h => by
    have ih := fm_congr (l := l) fun x hx => h x (List.mem_cons_of_mem _ hx)
    rw [List.filterMap_cons, List.filterMap_cons, h a (List.mem_cons_self ..), ih]
theorem pick_rev (xs : Array Value) : ((List.range xs.size).filterMap fun (m : Nat) => xs[((xs.size : Int) - 1 + (m : Int) * (-1)).toNat]?).toArray = xs.toList.reverse.toArray := by
  have e : (List.range xs.size).filterMap (fun (m : Nat) => xs[((xs.size : Int) - 1 + (m : Int) * (-1)).toNat]?) = ((List.range xs.size).reverse).filterMap fun m => xs[m]? := by
    rw [← krv_range, List.filterMap_map]
    refine fm_congr fun m hm => ?_
    have := List.mem_range.mp hm
    show xs[((xs.size : Int) - 1 + (m : Int) * (-1)).toNat]? = xs[xs.size - 1 - m]?
    rw [show ((xs.size : Int) - 1 + (m : Int) * (-1)).toNat = xs.size - 1 - m by omega]
  rw [e, List.filterMap_reverse]
  congr 2
  exact krv_all xs
section
variable {prog : Program} {w : World} {A : Around} {E : Value → Shared → Prop} {s : Shared}
theorem adjust_rev (n : Nat) : Builtin.Slice.sliceAdjust none none (-1) (n : Int) = ((n : Int) - 1, -1) := by
  unfold Builtin.Slice.sliceAdjust
  simp
theorem places_rev (n : Nat) : Builtin.Slice.slicePlaces ((n : Int) - 1) (-1) (-1) = n := by
  unfold Builtin.Slice.slicePlaces
  simp
  split <;> omega
theorem sliceApplied_rev {sl : Addr} {vs : Value} {n : Nat} {Q : Int × Int × Nat → Shared → Prop} (hs : s.heap.IsSliceOf sl .none .none vs) (ps : IsPart vs (some (-1)))
    (h : Q ((n : Int) - 1, -1, n) s) : wpAny (model prog w) A (Builtin.Slice.sliceApplied (.ref sl) (pure (n : Int))) Q E s := by
  obtain ⟨os, hos, hcs, hds⟩ := id hs
  unfold Builtin.Slice.sliceApplied Builtin.Slice.sliceFields
  refine wpAny_bind (wpAny_bind (wpAny_field hos hds (x := .none) rfl (wpAny_bind (wpAny_field hos hds (x := .none) rfl (wpAny_bind (wpAny_field hos hds (x := vs) rfl (wpAny_pure ?_)))))))
  refine wpAny_bind (slicePart_ ps ?_)
  show wpAny _ _ (if ((-1 : Int) == 0) = true then _ else _) _ _ s
  rw [if_neg (by decide)]
  refine wpAny_bind (slicePart_none (wpAny_bind (slicePart_none (wpAny_bind (wpAny_pure ?_)))))
  show wpAny _ _ (match Builtin.Slice.sliceAdjust none none (-1) (n : Int) with | (lo, hi) => pure (lo, (-1 : Int), Builtin.Slice.slicePlaces lo hi (-1))) _ _ s
  rw [adjust_rev n]
  show wpAny _ _ (pure ((n : Int) - 1, (-1 : Int), Builtin.Slice.slicePlaces ((n : Int) - 1) (-1) (-1))) _ _ s
  rw [places_rev]
  exact wpAny_pure h
theorem getItem_tuple_rev {t sl : Addr} {items : Array Value} {vs : Value} {Q : Value → Shared → Prop} (ht : IsTup s.heap t items) (hs : s.heap.IsSliceOf sl .none .none vs) (ps : IsPart vs (some (-1)))
    (h : Q (.ref s.heap.objs.size) { s with heap := s.heap.push { cls := .type "tuple", data := .seq items.toList.reverse.toArray } })
    (hsz : items.size ≤ sizeLine) : wpAny (model prog w) A (getItem (.ref t) (.ref sl)) Q E s := by
  have htake : sizeOk (.seq items.toList.reverse.toArray) := by
    show items.toList.reverse.toArray.size ≤ sizeLine
    rw [List.size_toArray, List.length_reverse, Array.length_toList]
    exact hsz
  obtain ⟨os, hos, hcs, hds⟩ := id hs
  have hTs : s.TypeIs (.ref sl) "slice" := ⟨os, hos, hcs⟩
  unfold getItem
  try with_reducible refine wpAny_holding ?_
  first | refine wpAny_bind (wpAny_pure ?_) | skip
  refine wpAny_bind (wpAny_sequenceKey ht.typeIs (by decide) ?_)
  refine wpAny_bind (wpAny_callSpecial?_slot (name := Str.ofString "__getitem__") ht.typeIs PyProof.Rows.slot_tuple_getitem
    (wpAny_call_entry PyProof.Rows.slot_tuple_getitem ht.typeIs entry_tuple_getitem ?_ (args_tuple_getitem _ _)))
  show wpAny _ _ (Builtin.Tuple.tupleItemsOf (.ref t) >>= _) _ _ s
  refine wpAny_bind (tupleItemsOf_ ht ?_)
  refine wpAny_bind (wpAny_typeOf hTs ?_)
  rw [if_pos (by decide)]
  refine wpAny_bind (sliceApplied_rev hs ps ?_)
  have hno : ¬ (((items.size : Int) - 1 == 0 && (-1 : Int) == 1 && items.size == items.size) = true) := by
    intro q
    rw [Bool.and_eq_true, Bool.and_eq_true] at q
    exact absurd (eq_of_beq q.1.2) (by decide)
  show wpAny _ _ (if ((items.size : Int) - 1 == 0 && (-1 : Int) == 1 && items.size == items.size) = true then _ else _) _ _ s
  rw [if_neg hno, pick_rev]
  first
    | exact wpAny_bind (m := Builtin.Tuple.tupleExact _) (wpAny_newObj_type (wpAny_pure ⟨_, rfl, wpAny_pure h⟩) htake)
    | exact wpAny_bind (m := Builtin.Tuple.tupleExact _) (wpAny_newObj_type (wpAny_bind (wpAny_pure (wpAny_pure ⟨_, rfl, wpAny_pure h⟩))) htake)
    | exact wpAny_bind (wpAny_bind (m := Builtin.Tuple.tupleExact _) (wpAny_newObj_type (wpAny_pure (wpAny_pure ⟨_, rfl, wpAny_pure h⟩)) htake))
    | exact wpAny_bind (wpAny_bind (m := Builtin.Tuple.tupleExact _) (wpAny_newObj_type (wpAny_pure ⟨_, rfl, wpAny_pure h⟩) htake))
end
/-! the rule -/
def tRevT (K : PySem.W.Frag) (te : TE) : TE := fun σ H Q => te σ H fun x H1 => ∃ a xs, x = .ref a ∧ SqT K H1 a xs ∧ ∀ p H2, Same H1 H2 → H1 p = none → RU.FzT H2 p xs.reverse → Q (.ref p) H2
theorem pe_revT {X : Cx} {e : Expr} {te : TE} {k : Nat} {p1 p2 p3 pos : Pos} (he : PE X e te) : PE X (.Subscript e (.Slice none none (some (.UnaryOp .USub (.Constant (.int 1) k p1) p2)) p3) pos) (tRevT X.K te) := by
  refine ⟨fun pins s σ H Q I h => ?_⟩
  refine Subscript_ (thn (he.run pins s σ H _ I h) fun v s1 ⟨x, H1, I1, r1, q1⟩ => ?_)
  obtain ⟨a, xs, ex, hx, q⟩ := q1
  subst ex
  cases r1
  have hst : PO X (some (.UnaryOp .USub (.Constant (.int 1) k p1) p2)) (tPart (tUn (rU fun i => .int (-i)) (tC (.int 1)))) := po_some (pe_un un_neg pe_int)
  refine wpAny_Slice (thn (po_none.run pins s1 σ H1 (fun o H2 => o = none ∧ H2 = H1) I1 ⟨rfl, rfl⟩) fun vl s2 ⟨l, H2, I2, pl, el, e2⟩ => ?_)
  subst el e2
  refine thn (po_none.run pins s2 σ H2 (fun o H3 => o = none ∧ H3 = H2) I2 ⟨rfl, rfl⟩) fun vu s3 ⟨u, H3, I3, pu, eu, e3⟩ => ?_
  subst eu e3
  refine thn (hst.run pins s3 σ H3 (fun o H4 => o = some (-1) ∧ H4 = H3) I3 ⟨1, rfl, -1, rfl, rfl, rfl⟩) fun vs s4 ⟨o, H4, I4, ps, eo, e4⟩ => ?_
  subst eo e4
  cases pl
  cases pu
  have I5 : Inv X pins σ H4 { s4 with heap := s4.heap.push { cls := .type "slice", data := .fields #[.none, .none, vs] } } := I4.kept (t' := s4.toks) fun b ob q => Heap.get?_push_of_some _ q
  obtain ⟨its, r, ht, hz⟩ := I5.tuple hx
  have hlen := r.length
  show wpAny (model X.prog X.w) X.A (subscriptTail e (.Slice none none (some (.UnaryOp .USub (.Constant (.int 1) k p1) p2)) p3) (.ref a) (.ref s4.heap.objs.size)) (EP X pins σ Q) X.xe { s4 with heap := s4.heap.push { cls := .type "slice", data := .fields #[.none, .none, vs] } }
  refine tail_any (ops := [.ref a, .ref s4.heap.objs.size]) ht.typeIs (PyProof.Rows.slot_tuple_getitem.lookup) ?_ (by with_unfolding_all rfl)
  refine getItem_tuple_rev ht (Heap.IsSliceOf.new _ .none .none vs) ps ?_ (by rw [List.size_toArray]; omega)
  let ob : Obj := { cls := .type "tuple", data := .seq its.toArray.toList.reverse.toArray }
  refine ⟨.ref _, _, I5.laid (t' := s4.toks) (o := .frz ob (.tup xs.reverse)) (fun b u z => Heap.get?_push_of_some _ z) (Nat.le_refl _) ?_, rfl, q _ _ (same_new (I5.hok.fresh (Nat.le_refl _))) (I5.hok.fresh (Nat.le_refl _)) ⟨ob, upd_same, rfl⟩⟩
  exact ⟨Heap.get?_push_size _ rfl, by rw [List.length_reverse]; exact hz, _, by simpa [ob] using r.reverse, _, Heap.get?_push_size _ rfl, rfl, _, rfl⟩
end EQT

namespace K22
open PySem PySem.Spec PyProof.Rows L2 RZ HX
def top (i : Nat) : Stmt := PySem.Challenge.pw_latchgrove_k22_deeds_known.main.body.getD i (.Pass ⟨0, 0, 0, 0⟩)
abbrev s_is_whole : Stmt := top 2
abbrev s_is_between : Stmt := top 3
abbrev s_is_row : Stmt := top 4
abbrev s_is_key : Stmt := top 5
abbrev s_is_value : Stmt := top 6
abbrev s_is_stretch : Stmt := top 7
abbrev s_is_deed : Stmt := top 9
abbrev s_law_pot : Stmt := top 11
abbrev s_law_take : Stmt := top 12
abbrev s_law_key : Stmt := top 13
abbrev s_law_deed : Stmt := top 14
abbrev s_law_is_deed : Stmt := top 15
abbrev s_law_odd_deed : Stmt := top 16
abbrev s_law : Stmt := top 17
theorem sc_is_whole : FnScope ["thing"] ["thing"] (defScope s_is_whole) := ⟨rfl, rfl, rfl, by decide +kernel, rfl, by decide +kernel, by decide +kernel⟩
theorem sc_is_between : FnScope ["thing", "low", "high"] ["thing", "low", "high"] (defScope s_is_between) := ⟨rfl, rfl, rfl, by decide +kernel, rfl, by decide +kernel, by decide +kernel⟩
theorem sc_is_row : FnScope ["thing", "many"] ["thing", "many"] (defScope s_is_row) := ⟨rfl, rfl, rfl, by decide +kernel, rfl, by decide +kernel, by decide +kernel⟩
theorem sc_is_key : FnScope ["thing"] ["thing"] (defScope s_is_key) := ⟨rfl, rfl, rfl, by decide +kernel, rfl, by decide +kernel, by decide +kernel⟩
theorem sc_is_value : FnScope ["thing"] ["thing"] (defScope s_is_value) := ⟨rfl, rfl, rfl, by decide +kernel, rfl, by decide +kernel, by decide +kernel⟩
theorem sc_is_stretch : FnScope ["low", "high"] ["low", "high"] (defScope s_is_stretch) := ⟨rfl, rfl, rfl, by decide +kernel, rfl, by decide +kernel, by decide +kernel⟩
theorem sc_is_deed : FnScope ["thing"] ["thing"] (defScope s_is_deed) := ⟨rfl, rfl, rfl, by decide +kernel, rfl, by decide +kernel, by decide +kernel⟩
theorem sc_law_pot : FnScope ["script", "k", "cell"] ["script", "k"] (defScope s_law_pot) := ⟨rfl, rfl, rfl, by decide +kernel, rfl, by decide +kernel, by decide +kernel⟩
theorem sc_law_take : FnScope ["pot", "many", "found", "one", "other"] ["pot", "many"] (defScope s_law_take) := ⟨rfl, rfl, rfl, by decide +kernel, rfl, by decide +kernel, by decide +kernel⟩
theorem sc_law_key : FnScope ["pot", "pairs", "way", "near"] ["pot", "pairs"] (defScope s_law_key) := ⟨rfl, rfl, rfl, by decide +kernel, rfl, by decide +kernel, by decide +kernel⟩
theorem sc_law_deed : FnScope ["pot", "pairs", "kinds", "kind", "key"] ["pot", "pairs", "kinds"] (defScope s_law_deed) := ⟨rfl, rfl, rfl, by decide +kernel, rfl, by decide +kernel, by decide +kernel⟩
theorem sc_law_is_deed : FnScope ["thing", "number"] ["thing"] (defScope s_law_is_deed) := ⟨rfl, rfl, rfl, by decide +kernel, rfl, by decide +kernel, by decide +kernel⟩
theorem sc_law_odd_deed : FnScope ["pot", "deed", "at", "numbers", "words", "some"] ["pot", "deed"] (defScope s_law_odd_deed) := ⟨rfl, rfl, rfl, by decide +kernel, rfl, by decide +kernel, by decide +kernel⟩
theorem sc_law : FnScope ["script", "kinds", "k", "pot", "turn", "deed", "things", "thing", "found"] ["script"] (defScope s_law) := ⟨rfl, rfl, rfl, by decide +kernel, rfl, by decide +kernel, by decide +kernel⟩
/-- what the top has written -/
structure TX (K : PySem.W.Frag) (mg : Str → Option Value) where
  fd_is_whole : FuncData
  F_is_whole : FunD K "is_whole" "is_whole" (defArgs s_is_whole) (defBody s_is_whole) (defScope s_is_whole) [] [] (He.ga K "is_whole") fd_is_whole
  g_is_whole : mg "is_whole" = some (.ref (He.ga K "is_whole"))
  fd_is_between : FuncData
  F_is_between : FunD K "is_between" "is_between" (defArgs s_is_between) (defBody s_is_between) (defScope s_is_between) [] [] (He.ga K "is_between") fd_is_between
  g_is_between : mg "is_between" = some (.ref (He.ga K "is_between"))
  fd_is_row : FuncData
  F_is_row : FunD K "is_row" "is_row" (defArgs s_is_row) (defBody s_is_row) (defScope s_is_row) [] [] (He.ga K "is_row") fd_is_row
  g_is_row : mg "is_row" = some (.ref (He.ga K "is_row"))
  fd_is_key : FuncData
  F_is_key : FunD K "is_key" "is_key" (defArgs s_is_key) (defBody s_is_key) (defScope s_is_key) [] [] (He.ga K "is_key") fd_is_key
  g_is_key : mg "is_key" = some (.ref (He.ga K "is_key"))
  fd_is_value : FuncData
  F_is_value : FunD K "is_value" "is_value" (defArgs s_is_value) (defBody s_is_value) (defScope s_is_value) [] [] (He.ga K "is_value") fd_is_value
  g_is_value : mg "is_value" = some (.ref (He.ga K "is_value"))
  fd_is_stretch : FuncData
  F_is_stretch : FunD K "is_stretch" "is_stretch" (defArgs s_is_stretch) (defBody s_is_stretch) (defScope s_is_stretch) [] [] (He.ga K "is_stretch") fd_is_stretch
  g_is_stretch : mg "is_stretch" = some (.ref (He.ga K "is_stretch"))
  fd_is_deed : FuncData
  F_is_deed : FunD K "is_deed" "is_deed" (defArgs s_is_deed) (defBody s_is_deed) (defScope s_is_deed) [] [] (He.ga K "is_deed") fd_is_deed
  g_is_deed : mg "is_deed" = some (.ref (He.ga K "is_deed"))
  fd_law_pot : FuncData
  F_law_pot : FunD K "_law_pot" "_law_pot" (defArgs s_law_pot) (defBody s_law_pot) (defScope s_law_pot) [] [] (He.ga K "_law_pot") fd_law_pot
  g_law_pot : mg "_law_pot" = some (.ref (He.ga K "_law_pot"))
  fd_law_take : FuncData
  F_law_take : FunD K "_law_take" "_law_take" (defArgs s_law_take) (defBody s_law_take) (defScope s_law_take) [] [] (He.ga K "_law_take") fd_law_take
  g_law_take : mg "_law_take" = some (.ref (He.ga K "_law_take"))
  fd_law_key : FuncData
  F_law_key : FunD K "_law_key" "_law_key" (defArgs s_law_key) (defBody s_law_key) (defScope s_law_key) [] [] (He.ga K "_law_key") fd_law_key
  g_law_key : mg "_law_key" = some (.ref (He.ga K "_law_key"))
  fd_law_deed : FuncData
  F_law_deed : FunD K "_law_deed" "_law_deed" (defArgs s_law_deed) (defBody s_law_deed) (defScope s_law_deed) [] [] (He.ga K "_law_deed") fd_law_deed
  g_law_deed : mg "_law_deed" = some (.ref (He.ga K "_law_deed"))
  fd_law_is_deed : FuncData
  F_law_is_deed : FunD K "_law_is_deed" "_law_is_deed" (defArgs s_law_is_deed) (defBody s_law_is_deed) (defScope s_law_is_deed) [] [] (He.ga K "_law_is_deed") fd_law_is_deed
  g_law_is_deed : mg "_law_is_deed" = some (.ref (He.ga K "_law_is_deed"))
  fd_law_odd_deed : FuncData
  F_law_odd_deed : FunD K "_law_odd_deed" "_law_odd_deed" (defArgs s_law_odd_deed) (defBody s_law_odd_deed) (defScope s_law_odd_deed) [] [] (He.ga K "_law_odd_deed") fd_law_odd_deed
  g_law_odd_deed : mg "_law_odd_deed" = some (.ref (He.ga K "_law_odd_deed"))
  fd_law : FuncData
  F_law : FunD K "law" "law" (defArgs s_law) (defBody s_law) (defScope s_law) [] [] (He.ga K "law") fd_law
  g_law : mg "law" = some (.ref (He.ga K "law"))
  g_GREATEST : ∃ t, mg "GREATEST" = some (.int 1000000000 t)
  n_abs : mg "abs" = none
  n_bool : mg "bool" = none
  n_int : mg "int" = none
  n_isinstance : mg "isinstance" = none
  n_len : mg "len" = none
  n_list : mg "list" = none
  n_max : mg "max" = none
  n_min : mg "min" = none
  n_range : mg "range" = none
  n_str : mg "str" = none
  n_tuple : mg "tuple" = none
theorem b_is_whole {K : PySem.W.Frag} {mg : Str → Option Value} (T : TX K mg) : Binds K T.fd_is_whole ["thing"] [] := T.F_is_whole.bindsN fun _ _ _ _ _ _ us hl => match us, hl with | [_], _ => rfl
theorem b_is_between {K : PySem.W.Frag} {mg : Str → Option Value} (T : TX K mg) : Binds K T.fd_is_between ["thing", "low", "high"] [] := T.F_is_between.bindsN fun _ _ _ _ _ _ us hl => match us, hl with | [_, _, _], _ => rfl
theorem b_is_row {K : PySem.W.Frag} {mg : Str → Option Value} (T : TX K mg) : Binds K T.fd_is_row ["thing", "many"] [] := T.F_is_row.bindsN fun _ _ _ _ _ _ us hl => match us, hl with | [_, _], _ => rfl
theorem b_is_key {K : PySem.W.Frag} {mg : Str → Option Value} (T : TX K mg) : Binds K T.fd_is_key ["thing"] [] := T.F_is_key.bindsN fun _ _ _ _ _ _ us hl => match us, hl with | [_], _ => rfl
theorem b_is_value {K : PySem.W.Frag} {mg : Str → Option Value} (T : TX K mg) : Binds K T.fd_is_value ["thing"] [] := T.F_is_value.bindsN fun _ _ _ _ _ _ us hl => match us, hl with | [_], _ => rfl
theorem b_is_stretch {K : PySem.W.Frag} {mg : Str → Option Value} (T : TX K mg) : Binds K T.fd_is_stretch ["low", "high"] [] := T.F_is_stretch.bindsN fun _ _ _ _ _ _ us hl => match us, hl with | [_, _], _ => rfl
theorem b_is_deed {K : PySem.W.Frag} {mg : Str → Option Value} (T : TX K mg) : Binds K T.fd_is_deed ["thing"] [] := T.F_is_deed.bindsN fun _ _ _ _ _ _ us hl => match us, hl with | [_], _ => rfl
theorem b_law_pot {K : PySem.W.Frag} {mg : Str → Option Value} (T : TX K mg) : Binds K T.fd_law_pot ["script", "k"] [] := T.F_law_pot.bindsN fun _ _ _ _ _ _ us hl => match us, hl with | [_, _], _ => rfl
theorem b_law_take {K : PySem.W.Frag} {mg : Str → Option Value} (T : TX K mg) : Binds K T.fd_law_take ["pot", "many"] [] := T.F_law_take.bindsN fun _ _ _ _ _ _ us hl => match us, hl with | [_, _], _ => rfl
theorem b_law_key {K : PySem.W.Frag} {mg : Str → Option Value} (T : TX K mg) : Binds K T.fd_law_key ["pot", "pairs"] [] := T.F_law_key.bindsN fun _ _ _ _ _ _ us hl => match us, hl with | [_, _], _ => rfl
theorem b_law_deed {K : PySem.W.Frag} {mg : Str → Option Value} (T : TX K mg) : Binds K T.fd_law_deed ["pot", "pairs", "kinds"] [] := T.F_law_deed.bindsN fun _ _ _ _ _ _ us hl => match us, hl with | [_, _, _], _ => rfl
theorem b_law_is_deed {K : PySem.W.Frag} {mg : Str → Option Value} (T : TX K mg) : Binds K T.fd_law_is_deed ["thing"] [] := T.F_law_is_deed.bindsN fun _ _ _ _ _ _ us hl => match us, hl with | [_], _ => rfl
theorem b_law_odd_deed {K : PySem.W.Frag} {mg : Str → Option Value} (T : TX K mg) : Binds K T.fd_law_odd_deed ["pot", "deed"] [] := T.F_law_odd_deed.bindsN fun _ _ _ _ _ _ us hl => match us, hl with | [_, _], _ => rfl
theorem b_law {K : PySem.W.Frag} {mg : Str → Option Value} (T : TX K mg) : Binds K T.fd_law ["script"] [] := T.F_law.bindsN fun _ _ _ _ _ _ us hl => match us, hl with | [_], _ => rfl
end K22

namespace K22
open PySem PySem.Spec PyProof.Rows L2 RZ HX
/-- a pot at p: its three numbers, the last at most B -/
def PotOk (H : Hp) (p : Addr) (B : Int) : Prop := ∃ x y c : Int, H p = some (.lst [.int x, .int y, .int c]) ∧ 0 ≤ x ∧ x < 2 ^ 2000 ∧ 0 ≤ y ∧ y < 2 ^ 61 ∧ 0 ≤ c ∧ c ≤ B
theorem PotOk.le {H : Hp} {p : Addr} {B C : Int} (h : PotOk H p B) (l : B ≤ C) : PotOk H p C := by
  obtain ⟨x, y, c, h1, h2, h3, h4, h5, h6, h7⟩ := h
  exact ⟨x, y, c, h1, h2, h3, h4, h5, h6, Int.le_trans h7 l⟩
theorem PotOk.same {H H' : Hp} {p : Addr} {B : Int} (h : PotOk H p B) (s : Same H H') : PotOk H' p B := by
  obtain ⟨x, y, c, h1, r⟩ := h
  exact ⟨x, y, c, s _ _ h1, r⟩
theorem PotOk.ne {H : Hp} {p q : Addr} {B : Int} (h : PotOk H p B) (n : H q = none) : p ≠ q := by
  obtain ⟨x, y, c, h1, r⟩ := h
  exact ne_of_none h1 n
theorem PotOk.new {H : Hp} {p q : Addr} {B : Int} {o : HO} (h : PotOk H p B) (n : H q = none) : PotOk (upd H q o) p B := h.same (same_new n)
theorem ten600 : (((10 : Int) ^ (60 : Int).toNat) ^ (10 : Int).toNat) < 2 ^ 2000 := by decide +kernel
section
variable {P : Program} {w : World} {K : PySem.W.Frag} {mg : Str → Option Value} {base : Heap}
def sp_law_pot (K : PySem.W.Frag) : Sp := fun vs H Q _ => ∃ (a : Addr) (ns : List Int) (k : Nat), vs = [.ref a, .int (k : Int)] ∧ SqL K H a (ns.map V.int) ∧ k ≤ 1000 ∧ ∀ H' p, Same H H' → H p = none → PotOk H' p 0 → Q (.ref p) H'
theorem ok_law_pot (T : TX K mg) : FnOk P w K mg base CX0 1 (He.ga K "_law_pot") T.fd_law_pot ["script", "k"] (sp_law_pot K) := by
  refine T.F_law_pot.ok sc_law_pot (fun vs H Q E h => ?_) (fun cdv A outer st H vs Q E hr h => ?_)
  · obtain ⟨a, ns, k, rfl, _⟩ := h
    rfl
  · obtain ⟨a, ns, k, rfl, hS, hk, kq⟩ := h
    refine ⟨_, PSs.nox (pss_cons (ps_set (i := 2) sc_law_pot.nd rfl (Or.inl rfl) pe_int)
 (Evl.pss_cut (ps_if (pt_cmpR op_lt (pv 1) (pe_callB call_len_seq rfl T.n_len PySem.boot_len (pa_cons (pv 0) pa_nil)) (nomark _))
 (pss_one (ps_set (i := 2) sc_law_pot.nd rfl (Or.inl rfl) (pe_op op_mod (pe_callB call_abs rfl T.n_abs (by decide +kernel) (pa_cons (pe_ix ix_list (pv 0) (pv 1) (fun _ _ => rfl)) pa_nil)) (pe_op op_powW (pe_op op_powW pe_int pe_int) pe_int))))
 pss_nil)
 (pss_one (ps_ret (pe_lst (pa_cons (pe_op op_mulW (pv 2) (pe_callTy call_int1 rfl T.n_int (by decide +kernel) (pa_cons (pe_cmpR op_ge (pv 2) (pe_op op_powW pe_int pe_int) (nomark _)) pa_nil))) (pa_cons (pe_op op_mod (pe_op op_powW (pe_op op_add (pe_op op_add (pe_op op_mod (pv 2) pe_int) (pe_op op_mulW pe_int (pv 1))) pe_int) pe_int) pe_int) (pa_cons pe_int pa_nil)))))))), ?_⟩
    refine ⟨fun σ' H' => ∃ cell : Int, σ' = [some (.ref a), some (.int (k : Int)), some (.int cell)] ∧ H' = H ∧ 0 ≤ cell ∧ cell < 2 ^ 2000, ?_, ?_⟩
    · refine ⟨_, rfl, _, rfl, a, _, rfl, .inl hS, _, _, rfl, rfl, _, rfl, ?_⟩
      refine ite2 (fun hc => ?_) (fun hc => ?_)
      · have hc' := of_decide_eq_true hc
        rw [List.length_map] at hc'
        obtain ⟨n, hn⟩ : ∃ n, ns[k]? = some n := ⟨ns[k]'(by omega), List.getElem?_eq_getElem (by omega)⟩
        refine ⟨_, rfl, _, rfl, a, _, _, _, rfl, rfl, hS, at_of (v := V.int n) (by rw [List.getElem?_map, hn]; rfl) rfl, _, rfl, ?_⟩
        have p1 : (0 : Int) < 10 ^ (60 : Int).toNat := Int.pow_pos (by decide)
        have p2 : (0 : Int) < ((10 : Int) ^ (60 : Int).toNat) ^ (10 : Int).toNat := Int.pow_pos p1
        refine ⟨_, _, rfl, rfl, powW_of (a := 4) (by decide) (by decide) (by decide) (by decide), _, _, rfl, rfl, powW_of (a := 200) (by decide) (by decide +kernel) (by decide) (by decide), _, _, rfl, rfl, p2, ?_⟩
        refine ⟨_, rfl, rfl, Int.emod_nonneg _ (Int.ne_of_gt p2), Int.lt_trans (Int.emod_lt_of_pos _ p2) ten600⟩
      · exact ⟨0, rfl, rfl, by decide, Int.pow_pos (by decide)⟩
    · rintro σ' H' ⟨cell, rfl, rfl, c0, c1⟩
      have cn : cell.natAbs < 2 ^ 2000 := by
        have z : ((cell.natAbs : Nat) : Int) < ((2 ^ 2000 : Nat) : Int) := by
          rw [Int.natAbs_of_nonneg c0]
          exact_mod_cast c1
        exact_mod_cast z
      refine ⟨_, rfl, _, rfl, _, _, rfl, rfl, powW_of (a := 4) (by decide) (by decide) (by decide) (by decide), _, _, rfl, rfl, .inr ⟨_, rfl, ?_⟩⟩
      have bb : ∀ b : Bool, (0 : Int) ≤ (if b = true then 1 else 0) ∧ (if b = true then 1 else 0 : Int) ≤ 1 := fun b => by cases b <;> decide
      obtain ⟨d0, d1⟩ := bb (decide ((10 : Int) ^ (18 : Int).toNat ≤ cell))
      generalize (if decide ((10 : Int) ^ (18 : Int).toNat ≤ cell) = true then 1 else 0 : Int) = d at d0 d1
      refine ⟨_, _, rfl, rfl, wide_mul (a := 2000) (b := 2) cn (by omega) (by decide) (by decide) (by decide), ?_⟩
      have m1 : 0 ≤ cell % 2147483629 := Int.emod_nonneg _ (by decide)
      have m2 : cell % 2147483629 < 2147483629 := Int.emod_lt_of_pos _ (by decide)
      refine ⟨_, rfl, _, _, rfl, rfl, (show (0 : Int) < 2147483629 by decide), _, rfl, _, _, rfl, rfl, wide_mul (a := 20) (b := 20) (by decide) (by omega) (by decide) (by decide) (by decide), _, _, rfl, rfl, _, _, rfl, rfl, _, _, rfl, rfl, powW_of (a := 64) (by decide) (by omega) (by decide) (by decide), _, _, rfl, rfl, (show (0 : Int) < 2305843009213693951 by decide), ?_⟩
      refine ⟨by show 3 ≤ sizeLine; decide, fun p hp => kq _ p (same_new hp) hp ⟨_, _, _, upd_same, Int.mul_nonneg c0 d0, ?_, Int.emod_nonneg _ (by decide), Int.lt_of_lt_of_le (Int.emod_lt_of_pos _ (by decide)) (by decide), Int.le_refl 0, Int.le_refl 0⟩⟩
      have z := Int.mul_le_mul_of_nonneg_left d1 c0
      rw [Int.mul_one] at z
      exact Int.lt_of_le_of_lt z c1
def sp_law_take : Sp := fun vs H Q _ => ∃ (p : Addr) (many B : Int), vs = [.ref p, .int many] ∧ 0 < many ∧ many < 2 ^ 60 ∧ PotOk H p B ∧ B < 2 ^ 40 ∧ ∀ H' v, But p H H' → PotOk H' p (B + 1) → 0 ≤ v → v < many → Q (.int v) H'
theorem ok_law_take (T : TX K mg) : FnOk P w K mg base CX0 1 (He.ga K "_law_take") T.fd_law_take ["pot", "many"] sp_law_take := by
  refine T.F_law_take.ok sc_law_take (fun vs H Q E h => ?_) (fun cdv A outer st H vs Q E hr h => ?_)
  · obtain ⟨p, many, B, rfl, _⟩ := h
    rfl
  · obtain ⟨p, many, B, rfl, hm0, hm1, ⟨x, y, c, hp, x0, x1, y0, y1, c0, c1⟩, hB, kq⟩ := h
    refine ⟨_, PSs.nox (pss_cons (ps_if (pt_cmpR op_gt (pe_ix ix_list (pv 0) pe_int (fun _ _ => rfl)) pe_int (nomark _))
 (pss_cons (ps_set (i := 2) sc_law_take.nd rfl (Or.inl rfl) (pe_op op_mod (pe_ix ix_list (pv 0) pe_int (fun _ _ => rfl)) (pv 1)))
 (pss_cons (ps_asg (pe_op op_fdivW (pe_ix ix_list (pv 0) pe_int (fun _ _ => rfl)) (pv 1)) (pg_sub (pv 0) pe_int set_list))
 (pss_one (ps_ret (pv 2)))))
 pss_nil)
 (pss_cons (ps_asg (pe_op op_add (pe_ix ix_list (pv 0) pe_int (fun _ _ => rfl)) pe_int) (pg_sub (pv 0) pe_int set_list))
 (pss_cons (ps_set (i := 3) sc_law_take.nd rfl (Or.inl rfl) (pe_op op_mod (pe_op op_powW (pe_op op_add (pe_ix ix_list (pv 0) pe_int (fun _ _ => rfl)) (pe_op op_mulW pe_int (pe_ix ix_list (pv 0) pe_int (fun _ _ => rfl)))) pe_int) pe_int))
 (pss_cons (ps_set (i := 4) sc_law_take.nd rfl (Or.inl rfl) (pe_op op_mod (pe_op op_powW (pe_op op_add (pe_op op_add (pv 3) (pe_op op_mod (pe_ix ix_list (pv 0) pe_int (fun _ _ => rfl)) pe_int)) (pe_op op_mulW pe_int (pe_ix ix_list (pv 0) pe_int (fun _ _ => rfl)))) pe_int) pe_int))
 (pss_one (ps_ret (pe_op op_mod (pe_op op_fdivW (pv 4) pe_int) (pv 1)))))))), ?_⟩
    have i0 : ∀ (a b c : V), atI [a, b, c] 0 = some a := fun _ _ _ => rfl
    have i1 : ∀ (a b c : V), atI [a, b, c] 1 = some b := fun _ _ _ => rfl
    have i2 : ∀ (a b c : V), atI [a, b, c] 2 = some c := fun _ _ _ => rfl
    have bt : ∀ {o : HO}, But p H (upd H p o) := (But.refl p H).upd
    refine ⟨_, rfl, p, _, _, _, rfl, rfl, SqL.of hp, i0 _ _ _, _, _, rfl, rfl, _, rfl, ?_⟩
    refine ite2 (fun hc => ?_) (fun hc => ?_)
    · refine ⟨_, rfl, p, _, _, _, rfl, rfl, SqL.of hp, i0 _ _ _, _, rfl, _, _, rfl, rfl, hm0, ?_⟩
      refine ⟨_, rfl, p, _, _, _, rfl, rfl, SqL.of hp, i0 _ _ _, _, rfl, _, _, rfl, rfl, wide_div (b := 60) hm0 (by omega) (by decide) (by decide), _, rfl, p, _, _, _, rfl, rfl, hp, rfl, ?_⟩
      refine ⟨_, rfl, kq _ _ bt ⟨_, _, _, upd_same, Int.ediv_nonneg x0 (Int.le_of_lt hm0), Int.lt_of_le_of_lt (Int.ediv_le_self _ x0) x1, y0, y1, c0, by omega⟩ (Int.emod_nonneg _ (Int.ne_of_gt hm0)) (Int.emod_lt_of_pos _ hm0)⟩
    · refine ⟨_, rfl, p, _, _, _, rfl, rfl, SqL.of hp, i2 _ _ _, _, _, rfl, rfl, _, rfl, p, _, _, _, rfl, rfl, hp, rfl, ?_⟩
      have h2 : upd H p (.lst ([V.int x, V.int y, V.int c].set 2 (.int (c + 1)))) p = some (.lst [.int x, .int y, .int (c + 1)]) := upd_same
      refine ⟨_, rfl, p, _, _, _, rfl, rfl, SqL.of h2, i1 _ _ _, _, rfl, p, _, _, _, rfl, rfl, SqL.of h2, i2 _ _ _, ?_⟩
      refine ⟨_, _, rfl, rfl, wide_mul (a := 20) (b := 42) (by decide) (by omega) (by decide) (by decide) (by decide), _, _, rfl, rfl, _, _, rfl, rfl, powW_of (a := 64) (by decide) (by omega) (by decide) (by decide), _, _, rfl, rfl, (show (0 : Int) < 2305843009213693921 by decide), ?_⟩
      have m1 : 0 ≤ (y + 104729 * (c + 1)) ^ (3 : Int).toNat % 2305843009213693921 := Int.emod_nonneg _ (by decide)
      have m2 : (y + 104729 * (c + 1)) ^ (3 : Int).toNat % 2305843009213693921 < 2305843009213693921 := Int.emod_lt_of_pos _ (by decide)
      generalize (y + 104729 * (c + 1)) ^ (3 : Int).toNat % 2305843009213693921 = one at m1 m2
      refine ⟨_, rfl, _, rfl, p, _, _, _, rfl, rfl, SqL.of h2, i1 _ _ _, _, _, rfl, rfl, (show (0 : Int) < 65537 by decide), _, _, rfl, rfl, _, rfl, p, _, _, _, rfl, rfl, SqL.of h2, i2 _ _ _, ?_⟩
      have m3 : 0 ≤ y % 65537 := Int.emod_nonneg _ (by decide)
      have m4 : y % 65537 < 65537 := Int.emod_lt_of_pos _ (by decide)
      generalize y % 65537 = yy at m3 m4
      refine ⟨_, _, rfl, rfl, wide_mul (a := 20) (b := 42) (by decide) (by omega) (by decide) (by decide) (by decide), _, _, rfl, rfl, _, _, rfl, rfl, powW_of (a := 64) (by decide) (by omega) (by decide) (by decide), _, _, rfl, rfl, (show (0 : Int) < 2305843009213693907 by decide), ?_⟩
      refine ⟨_, rfl, _, _, rfl, rfl, ⟨by decide, by decide⟩, _, rfl, _, _, rfl, rfl, hm0, ?_⟩
      exact kq _ _ bt ⟨_, _, _, h2, x0, x1, y0, y1, by omega, by omega⟩ (Int.emod_nonneg _ (Int.ne_of_gt hm0)) (Int.emod_lt_of_pos _ hm0)
end
end K22

namespace K22
open PySem PySem.Spec PyProof.Rows L2 RZ HX TR
theorem PotOk.keep {H H' : Hp} {p : Addr} {B : Int} (h : PotOk H p B) (b : But p H H') : Keep H H' := Keep.but b fun u z => by
  obtain ⟨x, y, c, h1, _⟩ := h
  rw [h1] at z
  cases z
  rfl
theorem PotOk.noTup {H : Hp} {p : Addr} {B : Int} (h : PotOk H p B) : ∀ u, H p = some u → tpb u = false := fun u z => by
  obtain ⟨x, y, c, h1, _⟩ := h
  rw [h1] at z
  cases z
  rfl
section
variable {P : Program} {w : World} {K : PySem.W.Frag} {mg : Str → Option Value} {base : Heap}
def sp_law_shape (N : Nat) : Sp := fun vs H Q _ => ∃ (p : Addr) (room l wide : Nat) (top : Bool) (B : Int), vs = [.ref p, .int (room : Int), .int ((l + 1 : Nat) : Int), .bl top, .int (wide : Int)] ∧ l < N ∧ 3 ≤ room ∧ room ≤ 8 ∧ wide ≤ 1000 ∧ PotOk H p B ∧ B + cS room l < 2 ^ 39 ∧
  ∀ (H' : Hp) (v : V) (s : Sh l), But p H H' → PotOk H' p (B + cS room l) → ShAt H' l v s → WfSh room l top s → Q v H'
end
end K22

namespace K22
open PySem PySem.Spec PyProof.Rows L2 RZ HX TR
theorem sum_cast {α : Type} (f : α → Nat) : ∀ xs : List α, (xs.map fun x => ((f x : Nat) : Int)).sum = ((xs.map f).sum : Nat)
  | [] => rfl
  | x :: xs => by
    rw [List.map_cons, List.sum_cons, List.map_cons, List.sum_cons, sum_cast f xs]
    omega
section
variable {P : Program} {w : World} {K : PySem.W.Frag} {mg : Str → Option Value} {base : Heap}
def sp_law_many (N : Nat) : Sp := fun vs H Q _ => ∃ (l room : Nat) (top : Bool) (v : V) (s : Sh l), vs = [v] ∧ l < N ∧ room ≤ 8 ∧ WfSh room l top s ∧ ShAt H l v s ∧ (∀ H', Same H H' → Q (.int (cntS l s : Int)) H')
def sp_law_pages (N : Nat) : Sp := fun vs H Q _ => ∃ (l room : Nat) (top : Bool) (v : V) (s : Sh l), vs = [v] ∧ l < N ∧ room ≤ 8 ∧ WfSh room l top s ∧ ShAt H l v s ∧ (∀ H', Same H H' → Q (.int (pgsS l s : Int)) H')
end
end K22

namespace K22
open PySem PySem.Spec PyProof.Rows L2 RZ HX TR
/-- a list of pairs -/
def PrsAt (H : Hp) (a : Addr) (ps : List (Int × Int)) : Prop := ∃ xs : List V, H a = some (.lst xs) ∧ Paired (PrAt H) xs ps
/-- pairs as a tree has them -/
def PrsOk (ps : List (Int × Int)) : Prop := ps.Pairwise (fun a b => a.1 < b.1) ∧ ∀ q ∈ ps, 0 ≤ q.1 ∧ q.1 ≤ 1000000000 ∧ 0 ≤ q.2 ∧ q.2 ≤ 1000000000
/-- but for the last one the keys are small -/
def PrsLow (ps : List (Int × Int)) : Prop := ∀ (j : Nat) (q : Int × Int), ps[j]? = some q → j + 1 < ps.length → q.1 < 100000000
theorem pick2 {q : Addr} {H : Hp} {a b : Int} {c : Bool} (h : H q = some (.lst [.int a, .int b])) : ∃ v : Int, H q = some (.lst [.int a, .int b]) ∧ atI [V.int a, V.int b] (if c = true then 1 else 0) = some (.int v) ∧ (v = a ∨ v = b) := by
  cases c with
  | true => exact ⟨b, h, rfl, .inr rfl⟩
  | false => exact ⟨a, h, rfl, .inl rfl⟩
theorem paired_set {α β : Type} {R : α → β → Prop} {x : α} {y : β} : ∀ {xs : List α} {ys : List β} {c : Nat}, Paired R xs ys → R x y → Paired R (xs.set c x) (ys.set c y)
  | _, _, _, .nil, _ => .nil
  | _, _, 0, .cons _ rs, h => .cons h rs
  | _, _, _ + 1, .cons r rs, h => .cons r (paired_set rs h)
theorem prsOk_set {ps : List (Int × Int)} {c : Nat} {y : Int × Int} (h : PrsOk ps) (hl : ps.length = c + 1) (hy : ps[c]? = some y) (hb : ∀ q ∈ ps, q.1 < 10 ^ 9) : PrsOk (ps.set c (10 ^ 9, y.2)) := by
  have e : ps = ps.take c ++ [y] := by
    rw [← take_more hy, List.take_of_length_le (by omega)]
  have e2 : ps.set c ((10 : Int) ^ 9, y.2) = ps.take c ++ [((10 : Int) ^ 9, y.2)] := by
    have hl' : (ps.take c).length = c := by rw [List.length_take]; omega
    rw [e, List.set_append, if_neg (by rw [hl']; omega), hl', Nat.sub_self, List.take_left' hl']
    rfl
  have hp := h.1
  rw [e] at hp
  obtain ⟨h1, _, _⟩ := List.pairwise_append.mp hp
  rw [e2]
  refine ⟨List.pairwise_append.mpr ⟨h1, List.pairwise_singleton _ _, fun a ha b hb' => ?_⟩, fun q hq => ?_⟩
  · obtain rfl := List.mem_singleton.mp hb'
    exact hb a (List.mem_of_mem_take ha)
  · rcases List.mem_append.mp hq with hq | hq
    · exact h.2 q (List.mem_of_mem_take hq)
    · obtain rfl := List.mem_singleton.mp hq
      have := h.2 y (by rw [e]; exact List.mem_append_right _ (List.mem_singleton.mpr rfl))
      exact ⟨(by decide : (0 : Int) ≤ 10 ^ 9), (by decide : (10 : Int) ^ 9 ≤ 1000000000), this.2.2⟩
section
variable {P : Program} {w : World} {K : PySem.W.Frag} {mg : Str → Option Value} {base : Heap}
def sp_law_pairs : Sp := fun vs H Q _ => ∃ (p : Addr) (many : Nat) (B : Int), vs = [.ref p, .int (many : Int)] ∧ many ≤ 40000 ∧ PotOk H p B ∧ B + 10 * many + 10 < 2 ^ 39 ∧
  ∀ (H' : Hp) (a : Addr) (ps : List (Int × Int)), But p H H' → PotOk H' p (B + 10 * many + 10) → H a = none → PrsAt H' a ps → ps.length = many → PrsOk ps → PrsLow ps → Q (.ref a) H'
end
end K22

namespace K22
open PySem PySem.Spec PyProof.Rows L2 RZ HX TR
theorem cut_to {xs : List V} {n : Nat} (h : n ≤ xs.length) : cutV xs none (some (n : Int)) = xs.take n := by
  have e1 : HT.sIx xs.length 0 none = 0 := rfl
  have e2 : HT.sIx xs.length xs.length (some (n : Int)) = n := by rw [HT.sIx_nat]; omega
  unfold cutV
  rw [e1, e2]
  rfl
theorem cut_from {xs : List V} {n : Nat} (h : n ≤ xs.length) : cutV xs (some (n : Int)) none = xs.drop n := by
  have e1 : HT.sIx xs.length 0 (some (n : Int)) = n := by rw [HT.sIx_nat]; omega
  have e2 : HT.sIx xs.length xs.length none = xs.length := rfl
  unfold cutV
  rw [e1, e2, List.take_of_length_le (by rw [List.length_drop]; omega)]
theorem seq0 (n : Nat) : seqIndex? 0 (n + 1) = some 0 := by
  show (if (decide ((0 : Int) ≤ 0) && decide ((0 : Int) < ((n + 1 : Nat) : Int))) = true then some (0 : Int).toNat else none) = some 0
  rw [if_pos (by simp)]
  rfl
/-- a tuple just made, of which one knows that it has no dict -/
def FzT (H : Hp) (a : Addr) (xs : List V) : Prop := ∃ o : Obj, H a = some (.frz o (.tup xs)) ∧ o.dict = none
theorem FzT.keep {H H' : Hp} (k : Keep H H') {a : Addr} {xs : List V} (h : FzT H a xs) : FzT H' a xs := by
  obtain ⟨o, h1, h2⟩ := h
  exact ⟨o, k.frz h1, h2⟩
theorem FzT.same {H H' : Hp} (k : Same H H') {a : Addr} {xs : List V} (h : FzT H a xs) : FzT H' a xs := h.keep (Keep.of k)
theorem FzT.sq {K : PySem.W.Frag} {H : Hp} {a : Addr} {xs : List V} (h : FzT H a xs) : SqT K H a xs := by
  obtain ⟨o, h1, _⟩ := h
  exact .inl (.inr ⟨o, h1⟩)
theorem FzT.ty {K : PySem.W.Frag} {H : Hp} {a : Addr} {xs : List V} (h : FzT H a xs) : TyX K H (.ref a) (.type "tuple") := by
  obtain ⟨o, h1, _⟩ := h
  exact .fTuple h1
def PrT (H : Hp) (a : Addr) (ps : List (Int × Int)) : Prop := ∃ xs : List V, FzT H a xs ∧ Paired (PrAt H) xs ps
theorem PrT.keep {H H' : Hp} (k : Keep H H') {a : Addr} {ps : List (Int × Int)} (h : PrT H a ps) : PrT H' a ps := by
  obtain ⟨xs, h1, h2⟩ := h
  exact ⟨xs, h1.keep k, paired_imp (fun _ _ r => PrAt.keep k r) h2⟩
def PgAt (H : Hp) (v : V) : Pg → Prop
  | .leaf ps nx => ∃ t q, v = .ref t ∧ H t = some (.tup [.str "leaf", .ref q, .int nx]) ∧ PrT H q ps
  | .node ks kids => ∃ t q1 q2, v = .ref t ∧ H t = some (.tup [.str "node", .ref q1, .ref q2]) ∧ H q1 = some (.tup (ks.map V.int)) ∧ FzT H q2 (kids.map V.int)
theorem PgAt.keep {H H' : Hp} (k : Keep H H') {v : V} : ∀ {g : Pg}, PgAt H v g → PgAt H' v g
  | .leaf _ _, ⟨t, q, e, h1, h2⟩ => ⟨t, q, e, k _ _ h1, h2.keep k⟩
  | .node _ _, ⟨t, q1, q2, e, h1, h2, h3⟩ => ⟨t, q1, q2, e, k _ _ h1, k _ _ h2, h3.keep k⟩
def EnAt (H : Hp) (e : Key × V) (q : Int × Pg) : Prop := e.1 = .inl q.1 ∧ PgAt H e.2 q.2
def DctAt (H : Hp) (d : Addr) (D : List (Int × Pg)) : Prop := ∃ es : List (Key × V), H d = some (.dK es) ∧ Paired (EnAt H) es D
theorem valV_of {H : Hp} {k : Int} : ∀ {es : List (Key × V)} {D : List (Int × Pg)}, Paired (EnAt H) es D → (lkp D k = none ∧ valV es (.inl k) = none) ∨ ∃ g v, lkp D k = some g ∧ valV es (.inl k) = some v ∧ PgAt H v g
  | _, _, .nil => .inl ⟨rfl, rfl⟩
  | e :: es, q :: D, .cons r rs => by
    obtain ⟨r1, r2⟩ := r
    by_cases c : q.1 = k
    · refine .inr ⟨q.2, e.2, ?_, ?_, r2⟩
      · unfold lkp
        rw [List.find?_cons_of_pos (by exact decide_eq_true c)]
        rfl
      · unfold valV
        rw [List.find?_cons_of_pos (by rw [r1, c]; exact decide_eq_true rfl)]
        rfl
    · have c1 : lkp (q :: D) k = lkp D k := by
        unfold lkp
        rw [List.find?_cons_of_neg (by simpa using c)]
      have c2 : valV (e :: es) (.inl k) = valV es (.inl k) := by
        unfold valV
        rw [List.find?_cons_of_neg (by rw [r1]; simpa using c)]
      rw [c1, c2]
      exact valV_of rs
theorem DctAt.put {H : Hp} {es : List (Key × V)} {D : List (Int × Pg)} {k : Int} {v : V} {g : Pg} (h : Paired (EnAt H) es D) (hn : lkp D k = none) (hv : PgAt H v g) : Paired (EnAt H) (putK es (.inl k) v) (D ++ [(k, g)]) := by
  have e : putK es (.inl k) v = es ++ [(.inl k, v)] := by
    unfold putK
    rw [if_neg]
    intro z
    obtain ⟨x, hx, hx2⟩ := List.any_eq_true.mp z
    obtain ⟨i, hi⟩ := List.getElem?_of_mem hx
    obtain ⟨q, hq, r1, _⟩ := pget1 h hi
    have hx3 := of_decide_eq_true hx2
    rw [r1] at hx3
    exact lkp_ne hn q (List.mem_of_getElem? hq) (by injection hx3)
  rw [e]
  exact paired_snoc ⟨rfl, hv⟩ h
theorem pr_ne {H : Hp} {a q : Addr} {xs : List V} {ps : List (Int × Int)} {is : List Int} (h : H a = some (.lst xs)) (hp : Paired (PrAt H) xs ps) (hq : H q = some (.lst (is.map V.int))) (ne : ps ≠ [] ∨ is ≠ []) : a ≠ q := fun e => by
  rw [e, hq] at h
  have e2 : xs = is.map V.int := by injection h with h; injection h with h; exact h.symm
  subst e2
  cases is with
  | nil =>
    cases hp
    rcases ne with ne | ne <;> exact ne rfl
  | cons i is =>
    cases hp with
    | cons r rs =>
      obtain ⟨t, e, _⟩ := r
      cases e
/-- all but four stay -/
def But4 (p r n d : Addr) (H H' : Hp) : Prop := ∀ b o, b ≠ p → b ≠ r → b ≠ n → b ≠ d → H b = some o → H' b = some o
theorem But4.refl (p r n d : Addr) (H : Hp) : But4 p r n d H H := fun _ _ _ _ _ _ e => e
theorem But4.trans {p r n d : Addr} {H H1 H2 : Hp} (a : But4 p r n d H H1) (b : But4 p r n d H1 H2) : But4 p r n d H H2 := fun c o h1 h2 h3 h4 e => b c o h1 h2 h3 h4 (a c o h1 h2 h3 h4 e)
theorem But4.same {p r n d : Addr} {H H1 H2 : Hp} (a : But4 p r n d H H1) (b : Same H1 H2) : But4 p r n d H H2 := fun c o h1 h2 h3 h4 e => b c o (a c o h1 h2 h3 h4 e)
theorem But4.new {p r n d q : Addr} {H H1 : Hp} {o : HO} (a : But4 p r n d H H1) (h : H1 q = none) : But4 p r n d H (upd H1 q o) := a.same (same_new h)
theorem But4.put {p r n d q : Addr} {H H1 : Hp} {o : HO} (a : But4 p r n d H H1) (h : q = p ∨ q = r ∨ q = n ∨ q = d) : But4 p r n d H (upd H1 q o) := fun c o h1 h2 h3 h4 e => by
  rw [upd_ne (by rintro rfl; rcases h with h | h | h | h <;> contradiction)]
  exact a c o h1 h2 h3 h4 e
theorem PotOk.put {H : Hp} {p q : Addr} {B : Int} {o : HO} (h : PotOk H p B) (e : p ≠ q) : PotOk (upd H q o) p B := by
  obtain ⟨x, y, c, h1, r⟩ := h
  exact ⟨x, y, c, by rw [upd_ne e]; exact h1, r⟩
theorem four {H : Hp} {p r n d q : Addr} {B : Int} {u : HO} {v w : HO} (hp : PotOk H p B) (h1 : H r = some u) (h2 : H n = some v) (h3 : H d = some w) (hq : H q = none) : q ≠ p ∧ q ≠ r ∧ q ≠ n ∧ q ≠ d := by
  obtain ⟨x, y, c, h0, _⟩ := hp
  exact ⟨(ne_of_none h0 hq).symm, (ne_of_none h1 hq).symm, (ne_of_none h2 hq).symm, (ne_of_none h3 hq).symm⟩
structure Dif (p r n d : Addr) : Prop where
  pr : p ≠ r
  pn : p ≠ n
  pd : p ≠ d
  rn : r ≠ n
  rd : r ≠ d
  nd : n ≠ d
/-- what is left: pairs, numbers, the last key -/
def RestAt (H : Hp) (p r n d : Addr) (ps : List (Int × Int)) (ns : List Int) (last : Int) : Prop :=
  ∃ a, H r = some (.lst [.ref a, .ref n, .int last]) ∧ PrsAt H a ps ∧ H n = some (.lst (ns.map V.int)) ∧ a ≠ p ∧ a ≠ r ∧ a ≠ n ∧ a ≠ d
/-- tuples stay where only these four change, none of which is one -/
theorem But4.keep {p r n d : Addr} {H H' : Hp} {B : Int} {ps : List (Int × Int)} {ns : List Int} {last : Int} {D : List (Int × Pg)} (b : But4 p r n d H H') (hp : PotOk H p B) (hr : RestAt H p r n d ps ns last) (hd : DctAt H d D) : Keep H H' := ⟨fun c u tu h => by
  obtain ⟨a, h1, _, h2, _⟩ := hr
  obtain ⟨es, h3, _⟩ := hd
  refine b c _ (tpb_no hp.noTup tu h) (fun z => ?_) (fun z => ?_) (fun z => ?_) h <;> subst z
  · rw [h1] at h; cases h; cases tu
  · rw [h2] at h; cases h; cases tu
  · rw [h3] at h; cases h; cases tu⟩
section
variable {P : Program} {w : World} {K : PySem.W.Frag} {mg : Str → Option Value} {base : Heap}
structure LaidIn (H : Hp) (l room : Nat) (s : Sh l) (p r n d : Addr) (ps : List (Int × Int)) (ns : List Int) (D : List (Int × Pg)) (last B : Int) : Prop where
  r3 : 3 ≤ room
  r8 : room ≤ 8
  pot : PotOk H p B
  bound : B + (pgsS l s : Int) < 2 ^ 39
  rest : RestAt H p r n d ps ns last
  dct : DctAt H d D
  dif : Dif p r n d
  ok : PrsOk ps
  above : Above ps last
  last0 : -1 ≤ last
  last9 : last ≤ 1000000000
  many : cntS l s ≤ ps.length
  numbers : pgsS l s ≤ ns.length
  nodup : ns.Nodup
  fresh : ∀ k ∈ ns, lkp D k = none
  few : ps.length ≤ 100000
  few2 : D.length + ns.length ≤ 100000
def sp_law_laid (N : Nat) : Sp := fun vs H Q _ => ∃ (l room : Nat) (top : Bool) (v : V) (s : Sh l) (p r n d : Addr) (ps : List (Int × Int)) (ns : List Int) (D : List (Int × Pg)) (last B : Int), vs = [.ref p, v, .ref r, .ref d] ∧ l < N ∧ WfSh room l top s ∧ ShAt H l v s ∧
  LaidIn H l room s p r n d ps ns D last B ∧
  ∀ (H' : Hp) (t : Tr l) (D' : List (Int × Pg)) (last' : Int), But4 p r n d H H' → PotOk H' p (B + (pgsS l s : Int) - 1) → RestAt H' p r n d (ps.drop (cntS l s)) (ns.drop (pgsS l s)) last' → DctAt H' d (D ++ D') → Gen l s t ps ns D D' last last' → Q (.int (num l t)) H'
end
end K22

namespace K22
open PySem PySem.Spec PyProof.Rows L2 RZ HX TR RP
def GoodPr (q : Int × Int) : Prop := 0 ≤ q.1 ∧ q.1 ≤ 1000000000 ∧ 0 ≤ q.2 ∧ q.2 ≤ 1000000000
def prD (p : Int × Int) : PyData := .tuple [.int p.1, .int p.2]
section
variable {K : PySem.W.Frag} {H : Hp}
theorem pr_dp {x : V} {p : Int × Int} (h : PrAt H x p) : Dp K H x (prD p) := by
  obtain ⟨t, rfl, ht⟩ := h
  exact .tup (SqT.of ht) (.cons (.int _) (.cons (.int _) .nil))
end
theorem eqv_prs : ∀ ps qs : List (Int × Int), (PyData.eqvAll (ps.map prD) (qs.map prD) = true ↔ ps = qs)
  | [], [] => by simp [PyData.eqvAll]
  | [], _ :: _ => by simp [PyData.eqvAll]
  | _ :: _, [] => by simp [PyData.eqvAll]
  | (a, b) :: ps, (c, d) :: qs => by
    have ih := eqv_prs ps qs
    simp only [List.map_cons, PyData.eqvAll, prD, PyData.eqv, Bool.and_eq_true, beq_iff_eq, ih, List.cons.injEq, Prod.mk.injEq, and_true]
theorem lay_prs : ∀ ps : List (Int × Int), PyData.canLayAll0 (ps.map prD) = true
  | [] => by simp only [List.map_nil, PyData.canLayAll0]
  | p :: ps => by simp only [List.map_cons, PyData.canLayAll0, prD, PyData.canLay0, lay_prs ps, Bool.and_self]
theorem deep_prs : ∀ ps : List (Int × Int), PyData.depthAll (ps.map prD) ≤ 1
  | [] => by simp only [List.map_nil, PyData.depthAll]; omega
  | p :: ps => by
    have := deep_prs ps
    simp only [List.map_cons, PyData.depthAll, prD, PyData.depth]
    omega
def prsD (ps : List (Int × Int)) : PyData := .tuple (ps.map prD)
theorem shaped_prs (ps : List (Int × Int)) : SeqAt.shaped (prsD ps) = true := by
  have := deep_prs ps
  unfold SeqAt.shaped prsD
  simp only [PyData.canLay0, lay_prs ps, PyData.depth, Bool.true_and]
  exact decide_eq_true (by omega)
theorem eqv_prsD {ps qs : List (Int × Int)} : PyData.eqv (prsD ps) (prsD qs) = decide (ps = qs) := by
  unfold prsD
  simp only [PyData.eqv]
  by_cases c : ps = qs
  · rw [decide_eq_true c, (eqv_prs ps qs).mpr c]
  · rw [decide_eq_false c]
    cases d : PyData.eqvAll (ps.map prD) (qs.map prD) with
    | false => rfl
    | true => exact (c ((eqv_prs ps qs).mp d)).elim
def PrS (K : PySem.W.Frag) (H : Hp) (a : Addr) (ps : List (Int × Int)) : Prop := ∃ xs : List V, SqT K H a xs ∧ Paired (PrAt H) xs ps
theorem PrS.dp {K : PySem.W.Frag} {H : Hp} {a : Addr} {ps : List (Int × Int)} (h : PrS K H a ps) : Dp K H (.ref a) (prsD ps) := by
  obtain ⟨xs, ha, hx⟩ := h
  exact .tup ha (dpAll_of (fun _ _ r => pr_dp r) hx)
theorem PrT.s {K : PySem.W.Frag} {H : Hp} {a : Addr} {ps : List (Int × Int)} (h : PrT H a ps) : PrS K H a ps := by
  obtain ⟨xs, ha, hx⟩ := h
  exact ⟨xs, ha.sq, hx⟩
theorem PrT.same {H H' : Hp} (k : Same H H') {a : Addr} {ps : List (Int × Int)} (h : PrT H a ps) : PrT H' a ps := by
  obtain ⟨xs, ha, hx⟩ := h
  exact ⟨xs, ha.same k, paired_imp (fun _ _ r => PrAt.keep (Keep.of k) r) hx⟩
theorem PrT.kp {H H' : Hp} (k : Keep H H') {a : Addr} {ps : List (Int × Int)} (h : PrT H a ps) : PrT H' a ps := by
  obtain ⟨xs, ha, hx⟩ := h
  exact ⟨xs, ha.keep k, paired_imp (fun _ _ r => PrAt.keep k r) hx⟩
section
variable {P : Program} {w : World} {K : PySem.W.Frag} {mg : Str → Option Value} {base : Heap}
def sp_law_key : Sp := fun vs H Q _ => ∃ (p a : Addr) (ps : List (Int × Int)) (B : Int), vs = [.ref p, .ref a] ∧ PrT H a ps ∧ (∀ q ∈ ps, GoodPr q) ∧ ps.length ≤ 2000 ∧ PotOk H p B ∧ B < 2 ^ 38 ∧
  ∀ (H' : Hp) (k : Int), But p H H' → PotOk H' p (B + 10) → 0 ≤ k → k ≤ 1000000000 → Q (.int k) H'
theorem ok_law_key (T : TX K mg) : FnOk P w K mg base CX0 2 (He.ga K "_law_key") T.fd_law_key ["pot", "pairs"] sp_law_key := by
  have G_law_take : FnOk P w K mg base CX0 1 (He.ga K "_law_take") T.fd_law_take ["pot", "many"] sp_law_take := ok_law_take T
  have b_law_take := b_law_take T
  refine T.F_law_key.ok sc_law_key (fun vs H Q E h => ?_) (fun cdv A outer st H vs Q E hr h => ?_)
  · obtain ⟨p, a, ps, B, rfl, _⟩ := h
    rfl
  · obtain ⟨p, a, ps, B, rfl, ha, hgood, hlen, hp, hB, kq⟩ := h
    refine ⟨_, PSs.nox (pss_cons (ps_set (i := 2) sc_law_key.nd rfl (Or.inl rfl) (pe_call G_law_take (hr.mono (by first | decide | omega)) rfl T.g_law_take T.F_law_take.kp b_law_take .nil pass0 (pa_cons (pv 0) (pa_cons pe_int pa_nil))))
 (pss_cons (ps_if (PW.pt (pw_or (pt_cmpR (op_eqD hr.units) (pv 1) (RU.pe_tupS pa_nil) (nomark _)) (pw_or1 (pt_cmpR op_eq (pv 2) pe_int (nomark _)))))
 (pss_one (ps_ret (pe_ix ix_list (RU.pe_lstS (pa_cons (pe_call G_law_take (hr.mono (by first | decide | omega)) rfl T.g_law_take T.F_law_take.kp b_law_take .nil pass0 (pa_cons (pv 0) (pa_cons pe_int pa_nil))) (pa_cons (pe_call G_law_take (hr.mono (by first | decide | omega)) rfl T.g_law_take T.F_law_take.kp b_law_take .nil pass0 (pa_cons (pv 0) (pa_cons (pe_op op_add (pe_op op_powW pe_int pe_int) pe_int) pa_nil))) (pa_cons pe_int (pa_cons (pe_op op_powW pe_int pe_int) pa_nil))))) (pe_call G_law_take (hr.mono (by first | decide | omega)) rfl T.g_law_take T.F_law_take.kp b_law_take .nil pass0 (pa_cons (pv 0) (pa_cons pe_int pa_nil))) (fun _ _ => rfl))))
 pss_nil)
 (pss_cons (ps_set (i := 3) sc_law_key.nd rfl (Or.inl rfl) (pe_ix ix_tup (pe_ix ix_tup (pv 1) (pe_call G_law_take (hr.mono (by first | decide | omega)) rfl T.g_law_take T.F_law_take.kp b_law_take .nil pass0 (pa_cons (pv 0) (pa_cons (pe_callB call_len_seq rfl T.n_len PySem.boot_len (pa_cons (pv 1) pa_nil)) pa_nil))) (fun _ _ => rfl)) pe_int (fun _ _ => rfl)))
 (pss_one (ps_ret (pe_callB (call_min2 rfl) rfl T.n_min (by decide +kernel) (pa_cons (pe_op op_powW pe_int pe_int) (pa_cons (pe_callB (call_max2 rfl) rfl T.n_max (by decide +kernel) (pa_cons pe_int (pa_cons (pe_op op_add (pv 3) (pe_ix ix_list (RU.pe_lstS (pa_cons pe_int (pa_cons pe_int (pa_cons pe_int (pa_cons (pe_un un_neg pe_int) pa_nil))))) (pe_op op_sub (pv 2) pe_int) (fun _ _ => rfl))) pa_nil))) pa_nil)))))))), ?_⟩
    refine ⟨_, rfl, p, 5, B, rfl, by decide, by decide, hp, by omega, fun H1 way b1 hp1 l1 u1 => ?_⟩
    have ha1 : PrT H1 a ps := ha.kp (hp.keep b1)
    refine ⟨_, rfl, by show 0 ≤ sizeLine; decide, fun q H2 sx nq hq => ?_⟩
    refine ⟨_, _, (PrT.s (ha1.same sx)).dp, PrS.dp (ps := []) ⟨[], FzT.sq hq, .nil⟩, shaped_prs _, shaped_prs [], ?_⟩
    rw [eqv_prsD]
    have hpx := hp1.same sx
    by_cases c0 : ps = []
    · rw [decide_eq_true c0]
      refine ⟨true, rfl, iteT (iteT ?_)⟩
      refine ⟨_, rfl, p, 60, _, rfl, by decide, by decide, hpx, by omega, fun H5 w5 b5 hp5 l5 u5 => ?_⟩
      refine ⟨_, rfl, _, _, rfl, rfl, powW_of (a := 4) (by decide) (by decide) (by decide) (by decide), _, _, rfl, rfl, p, (10 : Int) ^ (9 : Int).toNat + 1, _, rfl, by decide, by decide, hp5, by omega, fun H6 w6 b6 hp6 l6 u6 => ?_⟩
      refine ⟨_, _, rfl, rfl, powW_of (a := 4) (by decide) (by decide) (by decide) (by decide), by show 4 ≤ sizeLine; decide, fun q7 H7 s7 n7 h7 => ?_⟩
      refine ⟨_, rfl, p, 4, _, rfl, by decide, by decide, hp6.same s7, by omega, fun H8 w8 b8 hp8 l8 u8 => ?_⟩
      have e9 : (10 : Int) ^ (9 : Int).toNat = 1000000000 := by decide
      replace h7 : H7 q7 = some (HO.lst [V.int w5, V.int w6, V.int 0, V.int ((10 : Int) ^ (9 : Int).toNat)]) := h7
      rw [e9] at u6 h7
      have pick : ∃ k : Int, atI [V.int w5, V.int w6, V.int 0, V.int 1000000000] w8 = some (.int k) ∧ 0 ≤ k ∧ k ≤ 1000000000 := by
        rcases (by omega : w8 = 0 ∨ w8 = 1 ∨ w8 = 2 ∨ w8 = 3) with rfl | rfl | rfl | rfl
        · exact ⟨w5, rfl, l5, by omega⟩
        · exact ⟨w6, rfl, l6, by omega⟩
        · exact ⟨0, rfl, by decide, by decide⟩
        · exact ⟨1000000000, rfl, by decide, by decide⟩
      obtain ⟨k, hk, k0, k1⟩ := pick
      refine ⟨q7, _, _, _, rfl, rfl, SqL.of (b8 _ _ (hp6.ne n7).symm h7), hk, ?_⟩
      exact kq H8 k (((((b1.trans (But.of sx)).trans b5).trans b6).trans (But.of s7)).trans b8) (hp8.le (by omega)) k0 k1
    · rw [decide_eq_false c0]
      refine ⟨false, rfl, iteF ?_⟩
      refine ⟨_, rfl, rfl, _, rfl, ?_⟩
      by_cases c1 : way = 0
      · rw [decide_eq_true (congrArg V.int c1)]
        refine iteT ?_
        refine ⟨_, rfl, p, 60, _, rfl, by decide, by decide, hpx, by omega, fun H5 w5 b5 hp5 l5 u5 => ?_⟩
        refine ⟨_, rfl, _, _, rfl, rfl, powW_of (a := 4) (by decide) (by decide) (by decide) (by decide), _, _, rfl, rfl, p, (10 : Int) ^ (9 : Int).toNat + 1, _, rfl, by decide, by decide, hp5, by omega, fun H6 w6 b6 hp6 l6 u6 => ?_⟩
        refine ⟨_, _, rfl, rfl, powW_of (a := 4) (by decide) (by decide) (by decide) (by decide), by show 4 ≤ sizeLine; decide, fun q7 H7 s7 n7 h7 => ?_⟩
        refine ⟨_, rfl, p, 4, _, rfl, by decide, by decide, hp6.same s7, by omega, fun H8 w8 b8 hp8 l8 u8 => ?_⟩
        have e9 : (10 : Int) ^ (9 : Int).toNat = 1000000000 := by decide
        replace h7 : H7 q7 = some (HO.lst [V.int w5, V.int w6, V.int 0, V.int ((10 : Int) ^ (9 : Int).toNat)]) := h7
        rw [e9] at u6 h7
        have pick : ∃ k : Int, atI [V.int w5, V.int w6, V.int 0, V.int 1000000000] w8 = some (.int k) ∧ 0 ≤ k ∧ k ≤ 1000000000 := by
          rcases (by omega : w8 = 0 ∨ w8 = 1 ∨ w8 = 2 ∨ w8 = 3) with rfl | rfl | rfl | rfl
          · exact ⟨w5, rfl, l5, by omega⟩
          · exact ⟨w6, rfl, l6, by omega⟩
          · exact ⟨0, rfl, by decide, by decide⟩
          · exact ⟨1000000000, rfl, by decide, by decide⟩
        obtain ⟨k, hk, k0, k1⟩ := pick
        refine ⟨q7, _, _, _, rfl, rfl, SqL.of (b8 _ _ (hp6.ne n7).symm h7), hk, ?_⟩
        exact kq H8 k (((((b1.trans (But.of sx)).trans b5).trans b6).trans (But.of s7)).trans b8) (hp8.le (by omega)) k0 k1
      · rw [decide_eq_false (fun z => c1 (by injection z))]
        refine iteF ?_
        obtain ⟨xs, hxa, hxp⟩ := id (ha1.same sx)
        have hpos : 0 < ps.length := List.length_pos_iff.mpr c0
        refine ⟨_, rfl, _, rfl, _, rfl, a, xs, rfl, .inr hxa.sq, p, xs.length, _, rfl, by rw [hxp.length]; omega, by rw [hxp.length]; omega, hpx, by omega, fun H5 w5 b5 hp5 l5 u5 => ?_⟩
        have hx5 := (ha1.same sx).kp (hpx.keep b5)
        obtain ⟨xs5, hxa5, hxp5⟩ := id hx5
        obtain ⟨x, hxw⟩ : ∃ x, xs5[w5.toNat]? = some x := ⟨xs5[w5.toNat]'(by have := hxp.length; have := hxp5.length; omega), List.getElem?_eq_getElem _⟩
        obtain ⟨qq, hqq, tq, rfl, htq⟩ := pget1 hxp5 hxw
        have gq := hgood qq (List.mem_of_getElem? hqq)
        refine ⟨a, xs5, w5, _, rfl, rfl, hxa5.sq, at_of (j := w5.toNat) hxw (by omega), tq, [.int qq.1, .int qq.2], 0, _, rfl, rfl, SqT.of htq, rfl, ?_⟩
        refine ⟨_, _, rfl, rfl, powW_of (a := 4) (by decide) (by decide) (by decide) (by decide), _, rfl, 1, rfl, by show 4 ≤ sizeLine; decide, fun q6 H6 s6 n6 h6 => ?_⟩
        replace h6 : H6 q6 = some (HO.lst [V.int 0, V.int 0, V.int 1, V.int (-1)]) := h6
        have pick : ∃ d : Int, atI [V.int 0, V.int 0, V.int 1, V.int (-1)] (way - 1) = some (.int d) := by
          rcases (by omega : way = 1 ∨ way = 2 ∨ way = 3 ∨ way = 4) with rfl | rfl | rfl | rfl
          · exact ⟨0, rfl⟩
          · exact ⟨0, rfl⟩
          · exact ⟨1, rfl⟩
          · exact ⟨-1, rfl⟩
        obtain ⟨d, hd⟩ := pick
        refine ⟨_, rfl, _, _, rfl, rfl, q6, _, _, _, rfl, rfl, SqL.of h6, hd, _, _, rfl, rfl, _, _, rfl, _, _, rfl, ?_⟩
        have e9 : (10 : Int) ^ (9 : Int).toNat = 1000000000 := by decide
        rw [e9]
        refine kq H6 _ (((b1.trans (But.of sx)).trans b5).trans (But.of s6)) ((hp5.same s6).le (by omega)) ?_ ?_
        · split <;> split <;> omega
        · split <;> split <;> omega
end
end K22

namespace K22
open PySem PySem.Spec PyProof.Rows L2 RZ HX TR RP EQT
/-! any thing that is tracked -/
def isInt : V → Bool
  | .int _ => true
  | _ => false
def isI : V → Int → Int → Bool
  | .int i, a, b => decide (a ≤ i) && decide (i ≤ b)
  | _, _, _ => false
def isTxt : V → Bool
  | .str _ => true
  | _ => false
def isBl : V → Bool
  | .bl _ => true
  | _ => false
theorem kt {K : PySem.W.Frag} (T C : String) (b : Bool) (h : kitB T C = some b) : PySem.W.kitOne K (.type T) (.type C) = some b := kit_ty h
/-- a thing that is no tuple -/
def NTup (K : PySem.W.Frag) (H : Hp) (x : V) : Prop := (∃ a xs, x = .ref a ∧ SqL K H a xs) ∨ (∃ a kvs, x = .ref a ∧ H a = some (.dK kvs)) ∨ scal x (.str Str.empty) = true
theorem NTup.thg {K : PySem.W.Frag} {H : Hp} {x : V} (h : NTup K H x) : Thg K H x := by
  rcases h with h | h | h
  · exact .inl h
  · exact .inr (.inr (.inl h))
  · exact .inr (.inr (.inr h))
theorem tySq {K : PySem.W.Frag} {H : Hp} {a : Addr} {xs : List V} (h : SqL K H a xs) : TyX K H (.ref a) (.type "list") := by
  rcases h with h | ⟨o, its, n, hk, hc, hd⟩
  · rcases h with h | ⟨o, h⟩
    · exact .base (.lst h)
    · exact .base (.frz h)
  · exact .kList hk hc
theorem tyTp {K : PySem.W.Frag} {H : Hp} {a : Addr} {xs : List V} (h : SqT K H a xs) : TyX K H (.ref a) (.type "tuple") := by
  rcases h with h | ⟨o, its, n, hk, hc, hd⟩
  · rcases h with h | ⟨o, h⟩
    · exact .base (.tup h)
    · exact .fTuple h
  · exact .kTuple hk hc
/-- its type, and what that says of the classes that are asked for -/
theorem thg_ty {K : PySem.W.Frag} {H : Hp} {x : V} (h : Thg K H x) : ∃ t, TyX K H x t ∧ PySem.W.kitOne K t (.type "int") = some (isInt x || isBl x) ∧ PySem.W.kitOne K t (.type "bool") = some (isBl x) ∧ PySem.W.kitOne K t (.type "str") = some (isTxt x) := by
  rcases h with ⟨a, xs, rfl, ha⟩ | ⟨a, xs, rfl, ha⟩ | ⟨a, kvs, rfl, ha⟩ | hs
  · exact ⟨_, tySq ha, kt "list" "int" false (by decide +kernel), kt "list" "bool" false (by decide +kernel), kt "list" "str" false (by decide +kernel)⟩
  · exact ⟨_, tyTp ha, kt "tuple" "int" false (by decide +kernel), kt "tuple" "bool" false (by decide +kernel), kt "tuple" "str" false (by decide +kernel)⟩
  · exact ⟨_, .base (.dK ha), kt "dict" "int" false (by decide +kernel), kt "dict" "bool" false (by decide +kernel), kt "dict" "str" false (by decide +kernel)⟩
  · cases x with
    | str t => exact ⟨_, .base (.str _), kt "str" "int" false (by decide +kernel), kt "str" "bool" false (by decide +kernel), kt "str" "str" true (by decide +kernel)⟩
    | non => exact ⟨_, .base .non, kt "NoneType" "int" false (by decide +kernel), kt "NoneType" "bool" false (by decide +kernel), kt "NoneType" "str" false (by decide +kernel)⟩
    | int i => exact ⟨_, .base (.int _), kt "int" "int" true (by decide +kernel), kt "int" "bool" false (by decide +kernel), kt "int" "str" false (by decide +kernel)⟩
    | bl b => exact ⟨_, .base (.bl _), kt "bool" "int" true (by decide +kernel), kt "bool" "bool" true (by decide +kernel), kt "bool" "str" false (by decide +kernel)⟩
    | _ => exact absurd hs (by simp [scal])
theorem ntup_ty {K : PySem.W.Frag} {H : Hp} {x : V} (h : NTup K H x) : ∃ t, TyX K H x t ∧ PySem.W.kitOne K t (.type "tuple") = some false := by
  rcases h with ⟨a, xs, rfl, ha⟩ | ⟨a, kvs, rfl, ha⟩ | hs
  · exact ⟨_, tySq ha, kt "list" "tuple" false (by decide +kernel)⟩
  · exact ⟨_, .base (.dK ha), kt "dict" "tuple" false (by decide +kernel)⟩
  · cases x with
    | str t => exact ⟨_, .base (.str _), kt "str" "tuple" false (by decide +kernel)⟩
    | non => exact ⟨_, .base .non, kt "NoneType" "tuple" false (by decide +kernel)⟩
    | int i => exact ⟨_, .base (.int _), kt "int" "tuple" false (by decide +kernel)⟩
    | bl b => exact ⟨_, .base (.bl _), kt "bool" "tuple" false (by decide +kernel)⟩
    | _ => exact absurd hs (by simp [scal])
theorem tup_ty {K : PySem.W.Frag} : PySem.W.kitOne K (.type "tuple") (.type "tuple") = some true := kit_ty (by decide +kernel)
def G9 : Int := 1000000000
/-- a deed by its parts -/
def deedX : List V → Bool
  | [w, k] => (isStr w "find" || isStr w "drop") && isI k 0 G9
  | [w, k, v] => if isStr w "put" = true then isI k 0 G9 && isI v 0 G9 else (isStr w "span" || isStr w "walk") && (isI k 0 G9 && match k with | .int i => isI v (i + 1) (G9 + 1) | _ => false)
  | _ => false
/-- a tuple of things, or a thing that is none -/
def TThg (K : PySem.W.Frag) (H : Hp) (x : V) (r : Bool) : Prop := (∃ a xs, x = .ref a ∧ SqT K H a xs ∧ (∀ y ∈ xs, Thg K H y) ∧ r = deedX xs) ∨ (NTup K H x ∧ r = false)
section
variable {P : Program} {w : World} {K : PySem.W.Frag} {mg : Str → Option Value} {base : Heap}
def sp_is_whole (K : PySem.W.Frag) : Sp := fun vs H Q _ => ∃ x : V, vs = [x] ∧ Thg K H x ∧ Q (.bl (isInt x)) H
theorem ok_is_whole (T : TX K mg) : FnOk P w K mg base CX0 1 (He.ga K "is_whole") T.fd_is_whole ["thing"] (sp_is_whole K) := by
  refine T.F_is_whole.ok sc_is_whole (fun vs H Q E h => ?_) (fun cdv A outer st H vs Q E hr h => ?_)
  · obtain ⟨i, rfl, _⟩ := h
    rfl
  · obtain ⟨x, rfl, hx, kq⟩ := h
    refine ⟨_, PSs.nox (pss_one (ps_ret (pe_and (pe_callB call_isi rfl T.n_isinstance (by decide +kernel) (pa_cons (pv 0) (pa_cons (pe_ty "int" T.n_int (by decide +kernel)) pa_nil))) (pe_one (pe_not (pe_callB call_isi rfl T.n_isinstance (by decide +kernel) (pa_cons (pv 0) (pa_cons (pe_ty "bool" T.n_bool (by decide +kernel)) pa_nil)))))))), ?_⟩
    obtain ⟨t, h1, h2, h3, _⟩ := thg_ty hx
    refine ⟨_, rfl, _, _, t, .type "int", _, rfl, .ty "int", h1, h2, ?_⟩
    cases x with
    | int i => exact ⟨_, rfl, iteT ⟨_, rfl, _, _, t, .type "bool", _, rfl, .ty "bool", h1, h3, _, rfl, kq⟩⟩
    | bl b => exact ⟨_, rfl, iteT ⟨_, rfl, _, _, t, .type "bool", _, rfl, .ty "bool", h1, h3, _, rfl, kq⟩⟩
    | _ => exact ⟨_, rfl, iteF kq⟩
def sp_is_between (K : PySem.W.Frag) : Sp := fun vs H Q _ => ∃ (x : V) (a b : Int), vs = [x, .int a, .int b] ∧ Thg K H x ∧ Q (.bl (isI x a b)) H
theorem ok_is_between (T : TX K mg) : FnOk P w K mg base CX0 2 (He.ga K "is_between") T.fd_is_between ["thing", "low", "high"] (sp_is_between K) := by
  have G_is_whole : FnOk P w K mg base CX0 1 (He.ga K "is_whole") T.fd_is_whole ["thing"] (sp_is_whole K) := ok_is_whole T
  have b_is_whole := b_is_whole T
  refine T.F_is_between.ok sc_is_between (fun vs H Q E h => ?_) (fun cdv A outer st H vs Q E hr h => ?_)
  · obtain ⟨i, a, b, rfl, _⟩ := h
    rfl
  · obtain ⟨x, a, b, rfl, hx, kq⟩ := h
    refine ⟨_, PSs.nox (pss_one (ps_ret (pe_and (pe_call G_is_whole (hr.mono (by first | decide | omega)) rfl T.g_is_whole T.F_is_whole.kp b_is_whole .nil pass0 (pa_cons (pv 0) pa_nil)) (pe_one (pe_chain op_le op_le (pv 1) (pv 0) (pv 2)))))), ?_⟩
    refine ⟨_, rfl, x, rfl, hx, _, rfl, ?_⟩
    cases x with
    | int i =>
      refine iteT ⟨_, rfl, _, rfl, _, _, rfl, rfl, _, rfl, ?_⟩
      replace kq : Q (.bl (decide (a ≤ i) && decide (i ≤ b))) H := kq
      cases c : decide (a ≤ i) with
      | true =>
        rw [c] at kq
        exact iteT ⟨_, rfl, _, _, rfl, rfl, kq⟩
      | false =>
        rw [c] at kq
        exact iteF kq
    | _ => exact iteF kq
def sp_is_rng (K : PySem.W.Frag) (a b : Int) : Sp := fun vs H Q _ => ∃ x : V, vs = [x] ∧ Thg K H x ∧ Q (.bl (isI x a b)) H
theorem ok_is_key (T : TX K mg) : FnOk P w K mg base CX0 3 (He.ga K "is_key") T.fd_is_key ["thing"] (sp_is_rng K 0 G9) := by
  have G_is_between : FnOk P w K mg base CX0 2 (He.ga K "is_between") T.fd_is_between ["thing", "low", "high"] (sp_is_between K) := ok_is_between T
  have b_is_between := b_is_between T
  refine T.F_is_key.ok sc_is_key (fun vs H Q E h => ?_) (fun cdv A outer st H vs Q E hr h => ?_)
  · obtain ⟨i, rfl, _⟩ := h
    rfl
  · obtain ⟨x, rfl, hx, kq⟩ := h
    exact ⟨_, PSs.nox (pss_one (ps_ret (pe_call G_is_between (hr.mono (by first | decide | omega)) rfl T.g_is_between T.F_is_between.kp b_is_between .nil pass0 (pa_cons (pv 0) (pa_cons pe_int (pa_cons (pe_gint T.g_GREATEST) pa_nil)))))), _, rfl, x, 0, G9, rfl, hx, kq⟩
theorem ok_is_value (T : TX K mg) : FnOk P w K mg base CX0 3 (He.ga K "is_value") T.fd_is_value ["thing"] (sp_is_rng K 0 G9) := by
  have G_is_between : FnOk P w K mg base CX0 2 (He.ga K "is_between") T.fd_is_between ["thing", "low", "high"] (sp_is_between K) := ok_is_between T
  have b_is_between := b_is_between T
  refine T.F_is_value.ok sc_is_value (fun vs H Q E h => ?_) (fun cdv A outer st H vs Q E hr h => ?_)
  · obtain ⟨i, rfl, _⟩ := h
    rfl
  · obtain ⟨x, rfl, hx, kq⟩ := h
    exact ⟨_, PSs.nox (pss_one (ps_ret (pe_call G_is_between (hr.mono (by first | decide | omega)) rfl T.g_is_between T.F_is_between.kp b_is_between .nil pass0 (pa_cons (pv 0) (pa_cons pe_int (pa_cons (pe_gint T.g_GREATEST) pa_nil)))))), _, rfl, x, 0, G9, rfl, hx, kq⟩
def isStretch : V → V → Bool
  | .int i, v => isI (.int i) 0 G9 && isI v (i + 1) (G9 + 1)
  | _, _ => false
def sp_is_stretch (K : PySem.W.Frag) : Sp := fun vs H Q _ => ∃ x y : V, vs = [x, y] ∧ Thg K H x ∧ Thg K H y ∧ Q (.bl (isStretch x y)) H
theorem ok_is_stretch (T : TX K mg) : FnOk P w K mg base CX0 4 (He.ga K "is_stretch") T.fd_is_stretch ["low", "high"] (sp_is_stretch K) := by
  have G_is_between : FnOk P w K mg base CX0 2 (He.ga K "is_between") T.fd_is_between ["thing", "low", "high"] (sp_is_between K) := ok_is_between T
  have b_is_between := b_is_between T
  have G_is_key : FnOk P w K mg base CX0 3 (He.ga K "is_key") T.fd_is_key ["thing"] (sp_is_rng K 0 G9) := ok_is_key T
  have b_is_key := b_is_key T
  refine T.F_is_stretch.ok sc_is_stretch (fun vs H Q E h => ?_) (fun cdv A outer st H vs Q E hr h => ?_)
  · obtain ⟨x, y, rfl, _⟩ := h
    rfl
  · obtain ⟨x, y, rfl, hx, hy, kq⟩ := h
    refine ⟨_, PSs.nox (pss_one (ps_ret (pe_and (pe_call G_is_key (hr.mono (by first | decide | omega)) rfl T.g_is_key T.F_is_key.kp b_is_key .nil pass0 (pa_cons (pv 0) pa_nil)) (pe_one (pe_call G_is_between (hr.mono (by first | decide | omega)) rfl T.g_is_between T.F_is_between.kp b_is_between .nil pass0 (pa_cons (pv 1) (pa_cons (pe_op op_add (pv 0) pe_int) (pa_cons (pe_op op_add (pe_gint T.g_GREATEST) pe_int) pa_nil)))))))), ?_⟩
    refine ⟨_, rfl, x, rfl, hx, _, rfl, ?_⟩
    cases x with
    | int i =>
      replace kq : Q (.bl (isI (.int i) 0 G9 && isI y (i + 1) (G9 + 1))) H := kq
      cases c : isI (.int i) 0 G9 with
      | true =>
        rw [c] at kq
        exact iteT ⟨_, rfl, _, rfl, _, _, rfl, rfl, _, _, rfl, rfl, y, i + 1, G9 + 1, rfl, hy, kq⟩
      | false =>
        rw [c] at kq
        exact iteF kq
    | _ => exact iteF kq
def sp_is_row (K : PySem.W.Frag) : Sp := fun vs H Q _ => ∃ (x : V) (n : Nat), vs = [x, .int (n : Int)] ∧ ((∃ a xs, x = .ref a ∧ SqT K H a xs ∧ Q (.bl (decide (xs.length = n))) H) ∨ (NTup K H x ∧ Q (.bl false) H))
theorem ok_is_row (T : TX K mg) : FnOk P w K mg base CX0 1 (He.ga K "is_row") T.fd_is_row ["thing", "many"] (sp_is_row K) := by
  refine T.F_is_row.ok sc_is_row (fun vs H Q E h => ?_) (fun cdv A outer st H vs Q E hr h => ?_)
  · obtain ⟨x, n, rfl, _⟩ := h
    rfl
  · obtain ⟨x, n, rfl, hx⟩ := h
    refine ⟨_, PSs.nox (pss_one (ps_ret (pe_and (pe_callB call_isi rfl T.n_isinstance (by decide +kernel) (pa_cons (pv 0) (pa_cons (pe_ty "tuple" T.n_tuple (by decide +kernel)) pa_nil))) (pe_one (pe_cmpR op_eq (pe_callB call_len_seq rfl T.n_len PySem.boot_len (pa_cons (pv 0) pa_nil)) (pv 1) (nomark _)))))), ?_⟩
    rcases hx with ⟨a, xs, rfl, ha, kq⟩ | ⟨hx, kq⟩
    · refine ⟨_, rfl, _, _, .type "tuple", .type "tuple", true, rfl, .ty "tuple", tyTp ha, kt "tuple" "tuple" true (by decide +kernel), true, rfl, ?_⟩
      refine iteT ⟨_, rfl, a, _, rfl, .inr ha, _, rfl, rfl, ?_⟩
      have e : decide (V.int (xs.length : Int) = V.int (n : Int)) = decide (xs.length = n) := by
        by_cases c : xs.length = n
        · rw [decide_eq_true c, c]
          exact decide_eq_true rfl
        · rw [decide_eq_false c]
          exact decide_eq_false fun z => c (by injection z with z; omega)
      rw [e]
      exact kq
    · obtain ⟨t, h1, h2⟩ := ntup_ty hx
      exact ⟨_, rfl, _, _, t, .type "tuple", false, rfl, .ty "tuple", h1, h2, false, rfl, iteF kq⟩
theorem sqT_same {H H' : Hp} {a : Addr} {xs : List V} (s : Same H H') (h : SqT K H a xs) : SqT K H' a xs := by
  rcases h with h | h
  · rcases h with h | ⟨o, h⟩
    · exact .inl (.inl (s _ _ h))
    · exact .inl (.inr ⟨o, s _ _ h⟩)
  · exact .inr h
theorem Thg.same {H H' : Hp} {x : V} (s : Same H H') (h : Thg K H x) : Thg K H' x := by
  rcases h with ⟨a, xs, e, ha⟩ | ⟨a, xs, e, ha⟩ | ⟨a, kvs, e, ha⟩ | hs
  · exact .inl ⟨a, xs, e, s.seq ha⟩
  · exact .inr (.inl ⟨a, xs, e, sqT_same s ha⟩)
  · exact .inr (.inr (.inl ⟨a, kvs, e, s _ _ ha⟩))
  · exact .inr (.inr (.inr hs))
def sp_is_deed (K : PySem.W.Frag) : Sp := fun vs H Q _ => ∃ (x : V) (r : Bool), vs = [x] ∧ TThg K H x r ∧ ∀ H', Same H H' → Q (.bl r) H'
theorem ok_is_deed (T : TX K mg) : FnOk P w K mg base CX0 5 (He.ga K "is_deed") T.fd_is_deed ["thing"] (sp_is_deed K) := by
  have G_is_row : FnOk P w K mg base CX0 1 (He.ga K "is_row") T.fd_is_row ["thing", "many"] (sp_is_row K) := ok_is_row T
  have b_is_row := b_is_row T
  have G_is_key : FnOk P w K mg base CX0 3 (He.ga K "is_key") T.fd_is_key ["thing"] (sp_is_rng K 0 G9) := ok_is_key T
  have b_is_key := b_is_key T
  have G_is_value : FnOk P w K mg base CX0 3 (He.ga K "is_value") T.fd_is_value ["thing"] (sp_is_rng K 0 G9) := ok_is_value T
  have b_is_value := b_is_value T
  have G_is_stretch : FnOk P w K mg base CX0 4 (He.ga K "is_stretch") T.fd_is_stretch ["low", "high"] (sp_is_stretch K) := ok_is_stretch T
  have b_is_stretch := b_is_stretch T
  refine T.F_is_deed.ok sc_is_deed (fun vs H Q E h => ?_) (fun cdv A outer st H vs Q E hr h => ?_)
  · obtain ⟨x, r, rfl, _⟩ := h
    rfl
  · obtain ⟨x, r, rfl, hx, kq⟩ := h
    refine ⟨_, PSs.nox (pss_cons (ps_if (pt_val (pe_call G_is_row (hr.mono (by first | decide | omega)) rfl T.g_is_row T.F_is_row.kp b_is_row .nil pass0 (pa_cons (pv 0) (pa_cons pe_int pa_nil))))
 (pss_one (ps_ret (pe_and (pe_cmpR (EQT.op_inS (hu_of hr)) (pe_ix ix_tup (pv 0) pe_int (fun _ _ => rfl)) (RU.pe_tupS (pa_cons pe_str (pa_cons pe_str pa_nil))) rfl) (pe_one (pe_call G_is_key (hr.mono (by first | decide | omega)) rfl T.g_is_key T.F_is_key.kp b_is_key .nil pass0 (pa_cons (pe_ix ix_tup (pv 0) pe_int (fun _ _ => rfl)) pa_nil))))))
 pss_nil)
 (pss_cons (ps_if (pt_not (pt_val (pe_call G_is_row (hr.mono (by first | decide | omega)) rfl T.g_is_row T.F_is_row.kp b_is_row .nil pass0 (pa_cons (pv 0) (pa_cons pe_int pa_nil)))))
 (pss_one (ps_ret pe_bl))
 pss_nil)
 (pss_cons (ps_if (pt_cmpR (EQT.op_eqS hr.units0) (pe_ix ix_tup (pv 0) pe_int (fun _ _ => rfl)) pe_str (nomark _))
 (pss_one (ps_ret (pe_and (pe_call G_is_key (hr.mono (by first | decide | omega)) rfl T.g_is_key T.F_is_key.kp b_is_key .nil pass0 (pa_cons (pe_ix ix_tup (pv 0) pe_int (fun _ _ => rfl)) pa_nil)) (pe_one (pe_call G_is_value (hr.mono (by first | decide | omega)) rfl T.g_is_value T.F_is_value.kp b_is_value .nil pass0 (pa_cons (pe_ix ix_tup (pv 0) pe_int (fun _ _ => rfl)) pa_nil))))))
 pss_nil)
 (pss_one (ps_ret (pe_and (pe_cmpR (EQT.op_inS (hu_of hr)) (pe_ix ix_tup (pv 0) pe_int (fun _ _ => rfl)) (RU.pe_tupS (pa_cons pe_str (pa_cons pe_str pa_nil))) rfl) (pe_one (pe_call G_is_stretch (hr.mono (by first | decide | omega)) rfl T.g_is_stretch T.F_is_stretch.kp b_is_stretch .nil pass0 (pa_cons (pe_ix ix_tup (pv 0) pe_int (fun _ _ => rfl)) (pa_cons (pe_ix ix_tup (pv 0) pe_int (fun _ _ => rfl)) pa_nil)))))))))), ?_⟩
    rcases hx with ⟨a, xs, rfl, ha, hy, rfl⟩ | ⟨hx, rfl⟩
    · refine ⟨_, rfl, .ref a, 2, rfl, .inl ⟨a, xs, rfl, ha, ?_⟩⟩
      have no : ∀ ys : List V, ys.length ≠ 2 → ys.length ≠ 3 → deedX ys = false := fun ys h2 h3 => by
        match ys, h2, h3 with
        | [], _, _ => rfl
        | [_], _, _ => rfl
        | [_, _], h, _ => exact (h rfl).elim
        | [_, _, _], _, h => exact (h rfl).elim
        | _ :: _ :: _ :: _ :: _, _, _ => rfl
      by_cases c2 : xs.length = 2
      · rw [decide_eq_true c2]
        refine ⟨true, rfl, iteT ?_⟩
        obtain ⟨x0, k, rfl⟩ : ∃ x0 k, xs = [x0, k] := by
          match xs, c2 with
          | [x0, k], _ => exact ⟨x0, k, rfl⟩
        have h0 := hy x0 (List.mem_cons_self ..)
        have h1 := hy k (List.mem_cons_of_mem _ (List.mem_cons_self ..))
        refine ⟨_, rfl, a, _, 0, x0, rfl, rfl, ha, rfl, by show 2 ≤ sizeLine; decide, fun p H2 s2 np hp => ?_⟩
        refine ⟨p, ["find", "drop"], rfl, FzT.sq hp, Thg.same s2 h0, _, rfl, ?_⟩
        have e : (["find", "drop"] : List Str).any (fun z => isStr x0 z) = (isStr x0 "find" || isStr x0 "drop") := by simp [List.any_cons]
        have kq2 := kq H2 s2
        replace kq2 : Q (.bl ((isStr x0 "find" || isStr x0 "drop") && isI k 0 G9)) H2 := kq2
        rw [← e] at kq2
        cases c : (["find", "drop"] : List Str).any (fun z => isStr x0 z) with
        | true =>
          rw [c] at kq2
          exact iteT ⟨_, rfl, a, _, 1, k, rfl, rfl, sqT_same s2 ha, rfl, k, rfl, Thg.same s2 h1, kq2⟩
        | false =>
          rw [c] at kq2
          exact iteF kq2
      rw [decide_eq_false c2]
      refine ⟨false, rfl, iteF ?_⟩
      refine ⟨_, rfl, .ref a, 3, rfl, .inl ⟨a, xs, rfl, ha, ?_⟩⟩
      by_cases c3 : xs.length = 3
      · rw [decide_eq_true c3]
        refine ⟨true, rfl, iteF ?_⟩
        obtain ⟨x0, k, v, rfl⟩ : ∃ x0 k v, xs = [x0, k, v] := by
          match xs, c3 with
          | [x0, k, v], _ => exact ⟨x0, k, v, rfl⟩
        have h0 := hy x0 (List.mem_cons_self ..)
        have h1 := hy k (List.mem_cons_of_mem _ (List.mem_cons_self ..))
        have h2 := hy v (List.mem_cons_of_mem _ (List.mem_cons_of_mem _ (List.mem_cons_self ..)))
        refine ⟨_, rfl, a, _, 0, x0, rfl, rfl, ha, rfl, "put", rfl, h0, _, rfl, ?_⟩
        cases c : isStr x0 "put" with
        | true =>
          have kq2 : Q (.bl (isI k 0 G9 && isI v 0 G9)) H := by
            have z := kq H (Same.refl H)
            have e : deedX [x0, k, v] = (isI k 0 G9 && isI v 0 G9) := by
              show (if isStr x0 "put" = true then _ else _) = _
              rw [if_pos c]
            rw [e] at z
            exact z
          refine iteT ⟨_, rfl, a, _, 1, k, rfl, rfl, ha, rfl, k, rfl, h1, _, rfl, ?_⟩
          cases c1 : isI k 0 G9 with
          | true =>
            rw [c1] at kq2
            exact iteT ⟨_, rfl, a, _, 2, v, rfl, rfl, ha, rfl, v, rfl, h2, kq2⟩
          | false =>
            rw [c1] at kq2
            exact iteF kq2
        | false =>
          refine iteF ⟨_, rfl, a, _, 0, x0, rfl, rfl, ha, rfl, by show 2 ≤ sizeLine; decide, fun p H2 s2 np hp => ?_⟩
          refine ⟨p, ["span", "walk"], rfl, FzT.sq hp, Thg.same s2 h0, _, rfl, ?_⟩
          have e : (["span", "walk"] : List Str).any (fun z => isStr x0 z) = (isStr x0 "span" || isStr x0 "walk") := by simp [List.any_cons]
          have kq2 : Q (.bl ((isStr x0 "span" || isStr x0 "walk") && isStretch k v)) H2 := by
            have z := kq H2 s2
            have e : deedX [x0, k, v] = ((isStr x0 "span" || isStr x0 "walk") && isStretch k v) := by
              show (if isStr x0 "put" = true then _ else _) = _
              rw [c, if_neg nofun]
              congr 1
              cases k <;> rfl
            rw [e] at z
            exact z
          rw [← e] at kq2
          cases c : (["span", "walk"] : List Str).any (fun z => isStr x0 z) with
          | true =>
            rw [c] at kq2
            exact iteT ⟨_, rfl, a, _, 1, k, rfl, rfl, sqT_same s2 ha, rfl, _, rfl, a, _, 2, v, rfl, rfl, sqT_same s2 ha, rfl, k, v, rfl, Thg.same s2 h1, Thg.same s2 h2, kq2⟩
          | false =>
            rw [c] at kq2
            exact iteF kq2
      · rw [decide_eq_false c3]
        refine ⟨false, rfl, iteT ?_⟩
        have z := kq H (Same.refl H)
        rw [no xs c2 c3] at z
        exact z
    · refine ⟨_, rfl, x, 2, rfl, .inr ⟨hx, ?_⟩⟩
      refine ⟨false, rfl, iteF ⟨_, rfl, x, 3, rfl, .inr ⟨hx, false, rfl, iteT (kq H (Same.refl H))⟩⟩⟩
end
end K22

namespace K22
open PySem PySem.Spec PyProof.Rows L2 RZ HX TR RP EQT
def goodN : V → Bool
  | .int i => decide (0 ≤ i)
  | _ => false
theorem inV_ints {i : Int} {ks : List Int} : inV (.int i) (ks.map V.int) = decide (i ∈ ks) := by
  unfold inV
  rw [List.any_map, Bool.eq_iff_iff, List.any_eq_true, decide_eq_true_eq]
  constructor
  · rintro ⟨k, hk, e⟩
    have e' : k = i := by
      have z : eqV (.int k) (.int i) = true := e
      simpa [eqV] using z
    exact e' ▸ hk
  · intro h
    exact ⟨i, h, by show eqV (.int i) (.int i) = true; simp [eqV]⟩
theorem deedX3 {x0 k v : V} : deedX [x0, k, v] = (if isStr x0 "put" = true then isI k 0 G9 && isI v 0 G9 else (isStr x0 "span" || isStr x0 "walk") && isStretch k v) := by
  show (if isStr x0 "put" = true then _ else _) = _
  cases c : isStr x0 "put" with
  | true => rw [if_pos rfl, if_pos rfl]
  | false =>
    rw [if_neg nofun, if_neg nofun]
    congr 1
    cases k <;> rfl
theorem bad_I {y : V} (b : goodN y = false) {c : Int} : isI y 0 c = false := by
  cases y with
  | int i =>
    have z : decide (0 ≤ i) = false := b
    show (decide (0 ≤ i) && decide (i ≤ c)) = false
    rw [z]
    rfl
  | _ => rfl
theorem bad_S1 {k v : V} (b : goodN k = false) : isStretch k v = false := by
  cases k with
  | int i =>
    show (isI (.int i) 0 G9 && isI v (i + 1) (G9 + 1)) = false
    rw [bad_I b]
    rfl
  | _ => rfl
theorem bad_S2 {k v : V} (b : goodN v = false) : isStretch k v = false := by
  cases k with
  | int i =>
    show (isI (.int i) 0 G9 && isI v (i + 1) (G9 + 1)) = false
    cases v with
    | int j =>
      have z' : ¬ 0 ≤ j := of_decide_eq_false b
      show ((decide (0 ≤ i) && decide (i ≤ G9)) && (decide (i + 1 ≤ j) && decide (j ≤ G9 + 1))) = false
      by_cases c : (0 ≤ i)
      · rw [decide_eq_false (by omega : ¬ i + 1 ≤ j), Bool.false_and, Bool.and_false]
      · rw [decide_eq_false c, Bool.false_and, Bool.false_and]
    | _ => exact Bool.and_false _
  | _ => rfl
theorem deed_bad {x0 : V} {ys : List V} {y : V} (hy : y ∈ ys) (b : goodN y = false) : deedX (x0 :: ys) = false := by
  match ys, hy with
  | [k], hy =>
    obtain rfl := List.mem_singleton.mp hy
    show ((isStr x0 "find" || isStr x0 "drop") && isI y 0 G9) = false
    rw [bad_I b, Bool.and_false]
  | [k, v], hy =>
    rw [deedX3]
    rcases List.mem_cons.mp hy with rfl | hy
    · rw [bad_I b, bad_S1 b, Bool.and_false, Bool.false_and]
      split <;> rfl
    · obtain rfl := List.mem_singleton.mp hy
      rw [bad_I b, bad_S2 b, Bool.and_false, Bool.and_false]
      split <;> rfl
  | [], hy => cases hy
  | _ :: _ :: _ :: _, _ => rfl
theorem txt_no {x0 : V} (h : isTxt x0 = false) (z : Str) : isStr x0 z = false := by
  cases x0 with
  | str t => cases h
  | _ => rfl
theorem deed_txt {x0 : V} {ys : List V} (h : isTxt x0 = false) : deedX (x0 :: ys) = false := by
  match ys with
  | [] => rfl
  | [k] =>
    show ((isStr x0 "find" || isStr x0 "drop") && isI k 0 G9) = false
    rw [txt_no h, txt_no h]
    rfl
  | [k, v] =>
    rw [deedX3, txt_no h, txt_no h, txt_no h, if_neg nofun]
    rfl
  | _ :: _ :: _ :: _ => rfl
theorem deed_len {xs : List V} (h : ¬ (xs.length = 2 ∨ xs.length = 3)) : deedX xs = false := by
  match xs, h with
  | [], _ => rfl
  | [_], _ => rfl
  | [_, _], h => exact (h (.inl rfl)).elim
  | [_, _, _], h => exact (h (.inr rfl)).elim
  | _ :: _ :: _ :: _ :: _, _ => rfl
theorem isStr_eq {x : V} {z : Str} (h : isStr x z = true) : x = .str z := by
  cases x with
  | str t => rw [of_decide_eq_true h]
  | _ => cases h
theorem w_fp : isStr (.str "find") "put" = false := by decide +kernel
theorem w_fs : isStr (.str "find") "span" = false := by decide +kernel
theorem w_fw : isStr (.str "find") "walk" = false := by decide +kernel
theorem w_dp : isStr (.str "drop") "put" = false := by decide +kernel
theorem w_ds : isStr (.str "drop") "span" = false := by decide +kernel
theorem w_dw : isStr (.str "drop") "walk" = false := by decide +kernel
theorem deed3_fd {x0 k v : V} (h : (isStr x0 "find" || isStr x0 "drop") = true) : deedX [x0, k, v] = false := by
  rw [deedX3]
  rcases Bool.or_eq_true_iff.mp h with h | h
  · rw [isStr_eq h, w_fp, w_fs, w_fw, if_neg nofun]
    rfl
  · rw [isStr_eq h, w_dp, w_ds, w_dw, if_neg nofun]
    rfl
theorem deed2_int {x0 : V} {i : Int} (h : (isStr x0 "find" || isStr x0 "drop") = true) (h0 : 0 ≤ i) : deedX [x0, .int i] = decide (i ≤ 1000000000) := by
  show ((isStr x0 "find" || isStr x0 "drop") && (decide (0 ≤ i) && decide (i ≤ 1000000000))) = _
  rw [h, decide_eq_true h0, Bool.true_and, Bool.true_and]
theorem deed2_no {x0 k : V} (h : (isStr x0 "find" || isStr x0 "drop") = false) : deedX [x0, k] = false := by
  show ((isStr x0 "find" || isStr x0 "drop") && isI k 0 G9) = false
  rw [h]
  rfl
theorem deed3_none {x0 k v : V} (h : (isStr x0 "put" || (isStr x0 "span" || isStr x0 "walk")) = false) : deedX [x0, k, v] = false := by
  obtain ⟨h1, h2⟩ := Bool.or_eq_false_iff.mp h
  rw [deedX3, h1, h2, if_neg nofun]
  rfl
theorem deed3_big {x0 v : V} {i : Int} (h : 1000000000 < i) : deedX [x0, .int i, v] = false := by
  have e : isI (.int i) 0 G9 = false := by
    show (decide (0 ≤ i) && decide (i ≤ 1000000000)) = false
    rw [decide_eq_false (by omega : ¬ i ≤ 1000000000), Bool.and_false]
  rw [deedX3, e]
  have e2 : isStretch (.int i) v = false := by
    show (isI (.int i) 0 G9 && _) = false
    rw [e]
    rfl
  rw [e2, Bool.and_false]
  split <;> rfl
theorem deed3_put {x0 : V} {i j : Int} (h : isStr x0 "put" = true) (i0 : 0 ≤ i) (i1 : i ≤ 1000000000) (j0 : 0 ≤ j) : deedX [x0, .int i, .int j] = decide (j ≤ 1000000000) := by
  rw [deedX3, if_pos h]
  show ((decide (0 ≤ i) && decide (i ≤ 1000000000)) && (decide (0 ≤ j) && decide (j ≤ 1000000000))) = _
  rw [decide_eq_true i0, decide_eq_true i1, decide_eq_true j0]
  rfl
theorem deed3_span {x0 : V} {i j : Int} (h : isStr x0 "put" = false) (h2 : (isStr x0 "span" || isStr x0 "walk") = true) (i0 : 0 ≤ i) (i1 : i ≤ 1000000000) : deedX [x0, .int i, .int j] = (decide (i < j) && decide (j ≤ 1000000000 + 1)) := by
  rw [deedX3, if_neg (by rw [h]; exact nofun), h2]
  show (true && ((decide (0 ≤ i) && decide (i ≤ 1000000000)) && (decide (i + 1 ≤ j) && decide (j ≤ 1000000000 + 1)))) = _
  rw [decide_eq_true i0, decide_eq_true i1]
  rfl
theorem goodN_int {y : V} (h : goodN y = true) : ∃ i : Int, y = .int i ∧ 0 ≤ i := by
  cases y with
  | int i => exact ⟨i, rfl, of_decide_eq_true h⟩
  | _ => cases h
section
variable {P : Program} {w : World} {K : PySem.W.Frag} {mg : Str → Option Value} {base : Heap}
theorem ok_law_is_deed (T : TX K mg) : FnOk P w K mg base CX0 1 (He.ga K "_law_is_deed") T.fd_law_is_deed ["thing"] (sp_is_deed K) := by
  refine T.F_law_is_deed.ok sc_law_is_deed (fun vs H Q E h => ?_) (fun cdv A outer st H vs Q E hr h => ?_)
  · obtain ⟨x, r, rfl, _⟩ := h
    rfl
  · obtain ⟨x, r, rfl, hx, kq⟩ := h
    refine ⟨_, PSs.nox (pss_cons (ps_if (PW.pt (pw_or (pt_not (pt_val (pe_callB call_isi rfl T.n_isinstance (by decide +kernel) (pa_cons (pv 0) (pa_cons (pe_ty "tuple" T.n_tuple (by decide +kernel)) pa_nil))))) (pw_or (pt_cmpR op_notIn_seq (pe_callB call_len_seq rfl T.n_len PySem.boot_len (pa_cons (pv 0) pa_nil)) (RU.pe_tupS (pa_cons pe_int (pa_cons pe_int pa_nil))) rfl) (pw_or1 (pt_not (pt_val (pe_callB call_isi rfl T.n_isinstance (by decide +kernel) (pa_cons (pe_ix ix_tup (pv 0) pe_int (fun _ _ => rfl)) (pa_cons (pe_ty "str" T.n_str (by decide +kernel)) pa_nil)))))))))
 (pss_one (ps_ret pe_bl))
 pss_nil)
 (pss_cons (ps_for PassesOwn.never rfl (pi_tup (pe_slice RU.sl_tupF (pv 0) (po_some pe_int) po_none)) (pg_name (i := 1) sc_law_is_deed.nd rfl (Or.inl rfl))
 (pss_one (ps_if (PW.pt (pw_or (pt_not (pt_val (pe_callB call_isi rfl T.n_isinstance (by decide +kernel) (pa_cons (pv 1) (pa_cons (pe_ty "int" T.n_int (by decide +kernel)) pa_nil))))) (pw_or (pt_val (pe_callB call_isi rfl T.n_isinstance (by decide +kernel) (pa_cons (pv 1) (pa_cons (pe_ty "bool" T.n_bool (by decide +kernel)) pa_nil)))) (pw_or1 (pt_cmpR op_lt (pv 1) pe_int (nomark _))))))
 (pss_one (ps_ret pe_bl))
 pss_nil)))
 (pss_cons (ps_if (pt_cmpR (EQT.op_inS (hu_of hr)) (pe_ix ix_tup (pv 0) pe_int (fun _ _ => rfl)) (RU.pe_tupS (pa_cons pe_str (pa_cons pe_str pa_nil))) rfl)
 (pss_one (ps_ret (pe_and (pe_cmpR op_eq (pe_callB call_len_seq rfl T.n_len PySem.boot_len (pa_cons (pv 0) pa_nil)) pe_int (nomark _)) (pe_one (pe_cmpR op_le (pe_ix ix_tup (pv 0) pe_int (fun _ _ => rfl)) (pe_op op_powW pe_int pe_int) (nomark _))))))
 pss_nil)
 (pss_cons (ps_if (PW.pt (pw_or (pt_cmpR (EQT.op_notInS (hu_of hr)) (pe_ix ix_tup (pv 0) pe_int (fun _ _ => rfl)) (RU.pe_tupS (pa_cons pe_str (pa_cons pe_str (pa_cons pe_str pa_nil)))) rfl) (pw_or (pt_cmpR op_ne (pe_callB call_len_seq rfl T.n_len PySem.boot_len (pa_cons (pv 0) pa_nil)) pe_int (nomark _)) (pw_or1 (pt_cmpR op_gt (pe_ix ix_tup (pv 0) pe_int (fun _ _ => rfl)) (pe_op op_powW pe_int pe_int) (nomark _))))))
 (pss_one (ps_ret pe_bl))
 pss_nil)
 (pss_one (ps_ret (pe_ifExp (pt_cmpR (EQT.op_eqS hr.units0) (pe_ix ix_tup (pv 0) pe_int (fun _ _ => rfl)) pe_str (nomark _)) (pe_cmpR op_le (pe_ix ix_tup (pv 0) pe_int (fun _ _ => rfl)) (pe_op op_powW pe_int pe_int) (nomark _)) (pe_chain op_lt op_le (pe_ix ix_tup (pv 0) pe_int (fun _ _ => rfl)) (pe_ix ix_tup (pv 0) pe_int (fun _ _ => rfl)) (pe_op op_add (pe_op op_powW pe_int pe_int) pe_int))))))))), ?_⟩
    rcases hx with ⟨a, xs, rfl, ha, hy, rfl⟩ | ⟨hx, rfl⟩
    · refine ⟨_, rfl, _, _, .type "tuple", .type "tuple", true, rfl, .ty "tuple", tyTp ha, kt "tuple" "tuple" true (by decide +kernel), true, rfl, iteF ?_⟩
      refine ⟨_, rfl, a, xs, rfl, .inr ha, by show 2 ≤ sizeLine; decide, fun p H2 s2 np hp => ?_⟩
      refine ⟨p, [.int 2, .int 3], rfl, .inr (FzT.sq hp), rfl, rfl, _, rfl, ?_⟩
      have ha2 := sqT_same s2 ha
      by_cases c23 : xs.length = 2 ∨ xs.length = 3
      · have e : (!inV (.int (xs.length : Int)) [.int 2, .int 3]) = false := by
          rcases c23 with c | c <;> rw [c] <;> rfl
        rw [if_pos rfl, e]
        refine iteF ?_
        obtain ⟨x0, ys, rfl⟩ : ∃ x0 ys, xs = x0 :: ys := by
          match xs, c23 with
          | x0 :: ys, _ => exact ⟨x0, ys, rfl⟩
        have h0 := Thg.same s2 (hy x0 (List.mem_cons_self ..))
        obtain ⟨t0, q1, q2, q3, q4⟩ := thg_ty h0
        refine ⟨_, rfl, a, _, 0, x0, rfl, rfl, ha2, HX.at_of (j := 0) rfl rfl, _, _, t0, .type "str", _, rfl, .ty "str", q1, q4, _, rfl, ?_⟩
        cases ct : isTxt x0 with
        | false =>
          have z := kq H2 s2
          rw [deed_txt ct] at z
          exact iteT z
        | true =>
        refine iteF ?_
        refine ⟨_, rfl, 1, rfl, a, _, rfl, ha2, fun z => ?_, fun pr o hpr ho => ?_⟩
        · have z1 := z.1
          rw [show (1 : Int) = ((1 : Nat) : Int) from rfl, HT.sIx_nat, List.length_cons] at z1
          omega
        have ec : cutV (x0 :: ys) (some 1) none = ys := by
          unfold cutV
          rw [show (1 : Int) = ((1 : Nat) : Int) from rfl, HT.sIx_nat, HT.sIx_none, List.length_cons, show min 1 (ys.length + 1) = 1 by omega, List.drop_one, List.tail_cons]
          exact List.take_of_length_le (by omega)
        rw [ec]
        have s3 : Same H2 (upd H2 pr (.frz o (.tup ys))) := same_new hpr
        have h3 : SqT (cxOf CX0 P w K mg base ["thing", "number"] "_law_is_deed" (defScope s_law_is_deed) (He.ga K "_law_is_deed") cdv A outer st H E).nox.K (upd H2 pr (.frz o (.tup ys))) pr ys := FzT.sq ⟨o, upd_same, ho⟩
        generalize upd H2 pr (.frz o (.tup ys)) = H3 at s3 h3
        have s23 := s2.trans s3
        refine ⟨pr, rfl, ⟨_, h3⟩, ?_⟩
        refine for_tup (xs := ys) (fun i σ H' => ∃ v1, σ = [some (.ref a), v1] ∧ Same H3 H' ∧ ∀ j, j < i → ∀ y, ys[j]? = some y → goodN y = true) ⟨_, rfl, Same.refl H3, fun j hj => (by omega)⟩ (fun i σ H' _ z => by obtain ⟨_, _, s, _⟩ := z; exact sqT_same s h3) ?_ ?_
        · rintro i y σ H4 hyi ⟨v1, rfl, s4, hg⟩
          have hym : y ∈ ys := List.mem_of_getElem? hyi
          have hy4 : Thg K H4 y := Thg.same (s23.trans s4) (hy y (List.mem_cons_of_mem _ hym))
          obtain ⟨t, r1, r2, r3, _⟩ := thg_ty hy4
          have bad : goodN y = false → Q (.bl false) H4 := fun b => by
            have z := kq H4 (s23.trans s4)
            rw [deed_bad hym b] at z
            exact z
          refine ⟨_, rfl, _, _, t, .type "int", _, rfl, .ty "int", r1, r2, _, rfl, ?_⟩
          cases y with
          | int j =>
            refine iteF ⟨_, rfl, _, _, t, .type "bool", _, rfl, .ty "bool", r1, r3, _, rfl, iteF ?_⟩
            refine ⟨_, rfl, _, _, rfl, rfl, _, rfl, ?_⟩
            by_cases c : j < 0
            · rw [decide_eq_true c]
              exact iteT (bad (decide_eq_false (by omega)))
            · rw [decide_eq_false c]
              refine iteF ⟨_, rfl, s4, fun m hm y hy' => ?_⟩
              rcases Nat.lt_or_ge m i with cm | cm
              · exact hg m cm y hy'
              · have em : m = i := by omega
                rw [em, hyi] at hy'
                cases hy'
                exact decide_eq_true (by omega)
          | bl b => exact iteF ⟨_, rfl, _, _, t, .type "bool", _, rfl, .ty "bool", r1, r3, _, rfl, iteT (iteT (bad rfl))⟩
          | _ => exact iteT (iteT (bad rfl))
        · rintro σ H4 ⟨v1, rfl, s4, hg⟩
          have s24 := s23.trans s4
          have ha4 := sqT_same s24 ha
          have h04 := Thg.same s24 (hy x0 (List.mem_cons_self ..))
          have len : ys.length = 1 ∨ ys.length = 2 := by
            rw [List.length_cons] at c23
            omega
          refine ⟨_, rfl, a, _, 0, x0, rfl, rfl, ha4, HX.at_of (j := 0) rfl rfl, by show 2 ≤ sizeLine; decide, fun p5 H5 s5 np5 hp5 => ?_⟩
          refine ⟨p5, ["find", "drop"], rfl, FzT.sq hp5, Thg.same s5 h04, _, rfl, ?_⟩
          have ha5 := sqT_same s5 ha4
          have h05 := Thg.same s5 h04
          have e1 : (["find", "drop"] : List Str).any (fun z => isStr x0 z) = (isStr x0 "find" || isStr x0 "drop") := by simp [List.any_cons]
          rw [if_neg nofun, e1]
          have e9 : (10 : Int) ^ (9 : Int).toNat = 1000000000 := by decide
          have g0 : ∀ y, ys[0]? = some y → ∃ i : Int, y = .int i ∧ 0 ≤ i := fun y h => goodN_int (hg 0 (by omega) y h)
          cases cf : (isStr x0 "find" || isStr x0 "drop") with
          | true =>
            refine iteT ⟨_, rfl, a, _, rfl, .inr ha5, rfl, _, rfl, ?_⟩
            rcases len with l1 | l1
            · obtain ⟨k, rfl⟩ : ∃ k, ys = [k] := by
                match ys, l1 with
                | [k], _ => exact ⟨k, rfl⟩
              obtain ⟨i, rfl, i0⟩ := g0 k rfl
              refine iteT ⟨_, rfl, a, _, 1, _, rfl, rfl, ha5, rfl, _, _, rfl, rfl, powW_of (a := 4) (by decide) (by decide) (by decide) (by decide), _, _, rfl, rfl, ?_⟩
              have z := kq H5 (s24.trans s5)
              rw [deed2_int cf i0] at z
              rw [e9]
              exact z
            · obtain ⟨k, v, rfl⟩ : ∃ k v, ys = [k, v] := by
                match ys, l1 with
                | [k, v], _ => exact ⟨k, v, rfl⟩
              have z := kq H5 (s24.trans s5)
              rw [deed3_fd cf] at z
              exact iteF z
          | false =>
            refine iteF ?_
            refine ⟨_, rfl, a, _, 0, x0, rfl, rfl, ha5, HX.at_of (j := 0) rfl rfl, by show 3 ≤ sizeLine; decide, fun p6 H6 s6 np6 hp6 => ?_⟩
            have ha6 := sqT_same s6 ha5
            have h06 := Thg.same s6 h05
            refine ⟨p6, ["put", "span", "walk"], rfl, FzT.sq hp6, h06, _, rfl, ?_⟩
            have e2 : (["put", "span", "walk"] : List Str).any (fun z => isStr x0 z) = (isStr x0 "put" || (isStr x0 "span" || isStr x0 "walk")) := by simp [List.any_cons]
            rw [if_pos rfl, e2]
            have kq6 := kq H6 ((s24.trans s5).trans s6)
            rcases len with l1 | l1
            · obtain ⟨k, rfl⟩ : ∃ k, ys = [k] := by
                match ys, l1 with
                | [k], _ => exact ⟨k, rfl⟩
              rw [deed2_no cf] at kq6
              cases cp : (isStr x0 "put" || (isStr x0 "span" || isStr x0 "walk")) with
              | false => exact iteT (iteT kq6)
              | true => exact iteF ⟨_, rfl, a, _, rfl, .inr ha6, rfl, _, rfl, iteT (iteT kq6)⟩
            · obtain ⟨k, v, rfl⟩ : ∃ k v, ys = [k, v] := by
                match ys, l1 with
                | [k, v], _ => exact ⟨k, v, rfl⟩
              obtain ⟨i, rfl, i0⟩ := g0 k rfl
              obtain ⟨j, rfl, j0⟩ := goodN_int (hg 1 (by show 1 < 2; decide) v rfl)
              cases cp : (isStr x0 "put" || (isStr x0 "span" || isStr x0 "walk")) with
              | false =>
                rw [deed3_none cp] at kq6
                exact iteT (iteT kq6)
              | true =>
                refine iteF ⟨_, rfl, a, _, rfl, .inr ha6, rfl, _, rfl, iteF ?_⟩
                refine ⟨_, rfl, a, _, 1, _, rfl, rfl, ha6, rfl, _, _, rfl, rfl, powW_of (a := 4) (by decide) (by decide) (by decide) (by decide), _, _, rfl, rfl, _, rfl, ?_⟩
                rw [e9]
                by_cases ci : i > 1000000000
                · rw [deed3_big ci] at kq6
                  rw [decide_eq_true ci]
                  exact iteT kq6
                · rw [decide_eq_false ci]
                  refine iteF ?_
                  refine ⟨_, rfl, a, _, 0, x0, rfl, rfl, ha6, rfl, "put", rfl, h06, _, rfl, ?_⟩
                  cases cq : isStr x0 "put" with
                  | true =>
                    rw [deed3_put cq i0 (by omega) j0] at kq6
                    refine iteT ⟨_, rfl, a, _, 2, _, rfl, rfl, ha6, rfl, _, _, rfl, rfl, powW_of (a := 4) (by decide) (by decide) (by decide) (by decide), _, _, rfl, rfl, ?_⟩
                    rw [e9]
                    exact kq6
                  | false =>
                    rw [cq, Bool.false_or] at cp
                    rw [deed3_span cq cp i0 (by omega)] at kq6
                    refine iteF ⟨_, rfl, a, _, 1, _, rfl, rfl, ha6, rfl, _, rfl, a, _, 2, _, rfl, rfl, ha6, rfl, _, _, rfl, rfl, _, rfl, ?_⟩
                    by_cases cj : i < j
                    · rw [decide_eq_true cj] at kq6 ⊢
                      refine iteT ⟨_, _, rfl, rfl, powW_of (a := 4) (by decide) (by decide) (by decide) (by decide), _, _, rfl, rfl, _, _, rfl, rfl, ?_⟩
                      rw [e9]
                      exact kq6
                    · rw [decide_eq_false cj] at kq6 ⊢
                      exact iteF kq6
      · have e : (!inV (.int (xs.length : Int)) [.int 2, .int 3]) = true := by
          have e2 : inV (.int (xs.length : Int)) [.int 2, .int 3] = decide ((xs.length : Int) ∈ ([2, 3] : List Int)) := inV_ints (ks := [2, 3])
          rw [e2, decide_eq_false]
          · rfl
          · intro z
            rcases List.mem_cons.mp z with z | z
            · exact c23 (.inl (by omega))
            · have z' := List.mem_singleton.mp z
              exact c23 (.inr (by omega))
        rw [if_pos rfl, e]
        have z := kq H2 s2
        rw [deed_len c23] at z
        exact iteT (iteT z)
    · obtain ⟨t, h1, h2⟩ := ntup_ty hx
      exact ⟨_, rfl, _, _, t, .type "tuple", false, rfl, .ty "tuple", h1, h2, false, rfl, iteT (iteT (kq H (Same.refl H)))⟩
end
end K22

namespace K22
open PySem PySem.Spec PyProof.Rows L2 RZ HX TR RP EQT
/-- a deed as it is made: a word, a number or two -/
def DeedX (xs : List V) : Prop := ∃ (w : Str) (ns : List Int), xs = .str w :: ns.map V.int ∧ 1 ≤ ns.length ∧ ns.length ≤ 2
section
variable {P : Program} {w : World} {K : PySem.W.Frag} {mg : Str → Option Value} {base : Heap}
def sp_law_deed : Sp := fun vs H Q _ => ∃ (p a kl : Addr) (ps : List (Int × Int)) (ws : List Str) (B : Int), vs = [.ref p, .ref a, .ref kl] ∧ PrT H a ps ∧ (∀ q ∈ ps, GoodPr q) ∧ ps.length ≤ 2000 ∧ H kl = some (.lst (ws.map V.str)) ∧ 0 < ws.length ∧ ws.length ≤ 5 ∧ p ≠ kl ∧ PotOk H p B ∧ B < 2 ^ 37 ∧
  ∀ (H' : Hp) (d : Addr) (xs : List V), But p H H' → PotOk H' p (B + 100) → FzT H' d xs → DeedX xs → Q (.ref d) H'
theorem ok_law_deed (T : TX K mg) : FnOk P w K mg base CX0 3 (He.ga K "_law_deed") T.fd_law_deed ["pot", "pairs", "kinds"] sp_law_deed := by
  have G_law_take : FnOk P w K mg base CX0 1 (He.ga K "_law_take") T.fd_law_take ["pot", "many"] sp_law_take := ok_law_take T
  have b_law_take := b_law_take T
  have G_law_key : FnOk P w K mg base CX0 2 (He.ga K "_law_key") T.fd_law_key ["pot", "pairs"] sp_law_key := ok_law_key T
  have b_law_key := b_law_key T
  refine T.F_law_deed.ok sc_law_deed (fun vs H Q E h => ?_) (fun cdv A outer st H vs Q E hr h => ?_)
  · obtain ⟨p, a, kl, ps, ws, B, rfl, _⟩ := h
    rfl
  · obtain ⟨p, a, kl, ps, ws, B, rfl, ha, hgood, hlen, hk, w0, w5, npk, hp, hB, kq⟩ := h
    refine ⟨_, PSs.nox (pss_cons (ps_set (i := 3) sc_law_deed.nd rfl (Or.inl rfl) (pe_ix ix_list (pv 2) (pe_call G_law_take (hr.mono (by first | decide | omega)) rfl T.g_law_take T.F_law_take.kp b_law_take .nil pass0 (pa_cons (pv 0) (pa_cons (pe_callB call_len_seq rfl T.n_len PySem.boot_len (pa_cons (pv 2) pa_nil)) pa_nil))) (fun _ _ => rfl)))
 (pss_cons (ps_set (i := 4) sc_law_deed.nd rfl (Or.inl rfl) (pe_call G_law_key (hr.mono (by first | decide | omega)) rfl T.g_law_key T.F_law_key.kp b_law_key .nil pass0 (pa_cons (pv 0) (pa_cons (pv 1) pa_nil))))
 (pss_cons (ps_if (pt_cmpR op_eq (pv 3) pe_str (nomark _))
 (pss_one (ps_ret (RU.pe_tupS (pa_cons (pv 3) (pa_cons (pv 4) (pa_cons (pe_ix ix_list (RU.pe_lstS (pa_cons (pe_call G_law_take (hr.mono (by first | decide | omega)) rfl T.g_law_take T.F_law_take.kp b_law_take .nil pass0 (pa_cons (pv 0) (pa_cons pe_int pa_nil))) (pa_cons (pe_call G_law_take (hr.mono (by first | decide | omega)) rfl T.g_law_take T.F_law_take.kp b_law_take .nil pass0 (pa_cons (pv 0) (pa_cons (pe_op op_add (pe_op op_powW pe_int pe_int) pe_int) pa_nil))) pa_nil))) (pe_callTy call_int1 rfl T.n_int (by decide +kernel) (pa_cons (pe_cmpR op_eq (pe_call G_law_take (hr.mono (by first | decide | omega)) rfl T.g_law_take T.F_law_take.kp b_law_take .nil pass0 (pa_cons (pv 0) (pa_cons pe_int pa_nil))) pe_int (nomark _)) pa_nil)) (fun _ _ => rfl)) pa_nil))))))
 pss_nil)
 (pss_cons (ps_if (pt_cmpR op_in_seq (pv 3) (RU.pe_tupS (pa_cons pe_str (pa_cons pe_str pa_nil))) rfl)
 (pss_one (ps_ret (RU.pe_tupS (pa_cons (pv 3) (pa_cons (pv 4) pa_nil)))))
 pss_nil)
 (pss_one (ps_ret (RU.pe_tupS (pa_cons (pv 3) (pa_cons (pv 4) (pa_cons (pe_callB (call_min2 rfl) rfl T.n_min (by decide +kernel) (pa_cons (pe_op op_add (pe_op op_powW pe_int pe_int) pe_int) (pa_cons (pe_op op_add (pe_op op_add (pv 4) pe_int) (pe_ix ix_list (RU.pe_lstS (pa_cons (pe_call G_law_take (hr.mono (by first | decide | omega)) rfl T.g_law_take T.F_law_take.kp b_law_take .nil pass0 (pa_cons (pv 0) (pa_cons pe_int pa_nil))) (pa_cons (pe_call G_law_take (hr.mono (by first | decide | omega)) rfl T.g_law_take T.F_law_take.kp b_law_take .nil pass0 (pa_cons (pv 0) (pa_cons pe_int pa_nil))) (pa_cons (pe_op op_powW pe_int pe_int) pa_nil)))) (pe_call G_law_take (hr.mono (by first | decide | omega)) rfl T.g_law_take T.F_law_take.kp b_law_take .nil pass0 (pa_cons (pv 0) (pa_cons pe_int pa_nil))) (fun _ _ => rfl))) pa_nil))) pa_nil)))))))))), ?_⟩
    refine ⟨_, rfl, _, rfl, _, rfl, kl, _, rfl, .inl (SqL.of hk), p, (ws.map V.str).length, B, rfl, by rw [List.length_map]; omega, by rw [List.length_map]; omega, hp, by omega, fun H1 w1 b1 hp1 l1 u1 => ?_⟩
    rw [List.length_map] at u1
    have hk1 := b1 _ _ npk.symm hk
    obtain ⟨kw, hkw⟩ : ∃ kw, ws[w1.toNat]? = some kw := ⟨ws[w1.toNat]'(by omega), List.getElem?_eq_getElem _⟩
    refine ⟨kl, _, _, .str kw, rfl, rfl, SqL.of hk1, HX.at_of (j := w1.toNat) (by rw [List.getElem?_map, hkw]; rfl) (by omega), ?_⟩
    refine ⟨_, rfl, _, rfl, p, a, ps, _, rfl, ha.kp (hp.keep b1), hgood, hlen, hp1, by omega, fun H2 key b2 hp2 k0 k1 => ?_⟩
    have e9 : (10 : Int) ^ (9 : Int).toNat = 1000000000 := by decide
    have b12 := b1.trans b2
    refine ⟨_, rfl, rfl, _, rfl, ?_⟩
    cases decide (V.str kw = V.str "put") with
    | true =>
      refine iteT ?_
      refine ⟨_, rfl, _, rfl, _, rfl, p, 5, _, rfl, by decide, by decide, hp2, by omega, fun H3 w3 b3 hp3 l3 u3 => ?_⟩
      refine ⟨_, rfl, _, _, rfl, rfl, powW_of (a := 4) (by decide) (by decide) (by decide) (by decide), _, _, rfl, rfl, p, (10 : Int) ^ (9 : Int).toNat + 1, _, rfl, by decide, by decide, hp3, by omega, fun H4 w4 b4 hp4 l4 u4 => ⟨by show 2 ≤ sizeLine; decide, fun q5 H5 s5 n5 h5 => ?_⟩⟩
      refine ⟨_, rfl, p, 4, _, rfl, by decide, by decide, hp4.same s5, by omega, fun H6 w6 b6 hp6 l6 u6 => ?_⟩
      have pick : ∀ c : Bool, ∃ v : Int, atI [V.int w3, V.int w4] (if c = true then 1 else 0) = some (.int v) := fun c => by
        cases c with
        | true => exact ⟨w4, rfl⟩
        | false => exact ⟨w3, rfl⟩
      obtain ⟨v, hv⟩ := pick (decide (V.int w6 = V.int 0))
      refine ⟨rfl, .inr ⟨_, rfl, q5, _, _, _, rfl, rfl, SqL.of (b6 _ _ (hp4.ne n5).symm h5), hv, by show 3 ≤ sizeLine; decide, fun d H7 s7 nd hd => ?_⟩⟩
      exact kq H7 d _ (((((b12.trans b3).trans b4).trans (But.of s5)).trans b6).trans (But.of s7)) ((hp6.same s7).le (by omega)) hd ⟨kw, [key, v], rfl, Nat.le_of_ble_eq_true rfl, Nat.le_of_ble_eq_true rfl⟩
    | false =>
      refine iteF ⟨_, rfl, by show 2 ≤ sizeLine; decide, fun p3 H3 s3 np3 h3 => ⟨p3, [.str "find", .str "drop"], rfl, .inr (FzT.sq h3), rfl, rfl, _, rfl, ?_⟩⟩
      have hp3 := hp2.same s3
      rw [if_neg nofun]
      cases inV (.str kw) [.str "find", .str "drop"] with
      | true =>
        refine iteT ⟨_, rfl, _, rfl, by show 2 ≤ sizeLine; decide, fun d H4 s4 nd hd => ?_⟩
        exact kq H4 d _ ((b12.trans (But.of s3)).trans (But.of s4)) ((hp3.same s4).le (by omega)) hd ⟨kw, [key], rfl, Nat.le_of_ble_eq_true rfl, Nat.le_of_ble_eq_true rfl⟩
      | false =>
        refine iteF ⟨_, rfl, _, rfl, _, _, rfl, rfl, powW_of (a := 4) (by decide) (by decide) (by decide) (by decide), _, _, rfl, rfl, _, rfl, _, _, rfl, rfl, _, rfl, p, 4, _, rfl, by decide, by decide, hp3, by omega, fun H4 w4 b4 hp4 l4 u4 => ?_⟩
        refine ⟨_, rfl, p, 60, _, rfl, by decide, by decide, hp4, by omega, fun H5 w5 b5 hp5 l5 u5 => ?_⟩
        refine ⟨_, _, rfl, rfl, powW_of (a := 4) (by decide) (by decide) (by decide) (by decide), by show 3 ≤ sizeLine; decide, fun q6 H6 s6 n6 h6 => ?_⟩
        replace h6 : H6 q6 = some (HO.lst [V.int w4, V.int w5, V.int ((10 : Int) ^ (9 : Int).toNat)]) := h6
        refine ⟨_, rfl, p, 3, _, rfl, by decide, by decide, hp5.same s6, by omega, fun H7 w7 b7 hp7 l7 u7 => ?_⟩
        have pick : ∃ m : Int, atI [V.int w4, V.int w5, V.int ((10 : Int) ^ (9 : Int).toNat)] w7 = some (.int m) := by
          rcases (by omega : w7 = 0 ∨ w7 = 1 ∨ w7 = 2) with rfl | rfl | rfl
          · exact ⟨_, rfl⟩
          · exact ⟨_, rfl⟩
          · exact ⟨_, rfl⟩
        obtain ⟨m, hm⟩ := pick
        refine ⟨q6, _, _, _, rfl, rfl, SqL.of (b7 _ _ (hp5.ne n6).symm h6), hm, _, _, rfl, rfl, _, _, rfl, by show 3 ≤ sizeLine; decide, fun d H8 s8 nd hd => ?_⟩
        exact kq H8 d _ ((((((b12.trans (But.of s3)).trans b4).trans b5).trans (But.of s6)).trans b7).trans (But.of s8)) ((hp7.same s8).le (by omega)) hd ⟨kw, [key, _], rfl, Nat.le_of_ble_eq_true rfl, Nat.le_of_ble_eq_true rfl⟩
end
end K22

namespace K22
open PySem PySem.Spec PyProof.Rows L2 RZ HX TR RP EQT
theorem Thg.but {K : PySem.W.Frag} {H H' : Hp} {p : Addr} {x : V} (b : But p H H') (ne : x ≠ .ref p) (h : Thg K H x) : Thg K H' x := by
  have nq : ∀ a, x = .ref a → a ≠ p := fun a e z => ne (by rw [e, z])
  rcases h with ⟨a, xs, e, ha⟩ | ⟨a, xs, e, ha⟩ | ⟨a, kvs, e, ha⟩ | hs
  · refine .inl ⟨a, xs, e, ?_⟩
    rcases ha with (h | ⟨o, h⟩) | h
    · exact .inl (.inl (b _ _ (nq a e) h))
    · exact .inl (.inr ⟨o, b _ _ (nq a e) h⟩)
    · exact .inr h
  · refine .inr (.inl ⟨a, xs, e, ?_⟩)
    rcases ha with (h | ⟨o, h⟩) | h
    · exact .inl (.inl (b _ _ (nq a e) h))
    · exact .inl (.inr ⟨o, b _ _ (nq a e) h⟩)
    · exact .inr h
  · exact .inr (.inr (.inl ⟨a, kvs, e, b _ _ (nq a e) ha⟩))
  · exact .inr (.inr (.inr hs))
theorem ref_ne {a p : Addr} (h : p ≠ a) : V.ref a ≠ V.ref p := fun z => h (by injection z with z; exact z.symm)
theorem sqT_keep {K : PySem.W.Frag} {H H' : Hp} {a : Addr} {xs : List V} (k : Keep H H') (h : SqT K H a xs) : SqT K H' a xs := by
  rcases h with (h | ⟨o, h⟩) | h
  · exact .inl (.inl (k _ _ h))
  · exact .inl (.inr ⟨o, k.frz h⟩)
  · exact .inr h
theorem scal_thg {K : PySem.W.Frag} {H : Hp} {x : V} (h : scal x (.str Str.empty) = true) : Thg K H x := .inr (.inr (.inr h))
theorem deed_thg {K : PySem.W.Frag} {H : Hp} {p : Addr} {xs : List V} (h : DeedX xs) : ∀ y ∈ xs, Thg K H y ∧ y ≠ .ref p := by
  obtain ⟨w, ns, rfl, _⟩ := h
  intro y hy
  rcases List.mem_cons.mp hy with rfl | hy
  · exact ⟨scal_thg rfl, nofun⟩
  · obtain ⟨n, _, rfl⟩ := List.mem_map.mp hy
    exact ⟨scal_thg rfl, nofun⟩
theorem cut_mem {xs : List V} {lo hi : Option Int} {y : V} (h : y ∈ cutV xs lo hi) : y ∈ xs := by
  unfold cutV at h
  exact List.mem_of_mem_drop (List.mem_of_mem_take h)
theorem thg_app {K : PySem.W.Frag} {H : Hp} {p : Addr} {xs ys : List V} (h1 : ∀ y ∈ xs, Thg K H y ∧ y ≠ .ref p) (h2 : ∀ y ∈ ys, Thg K H y ∧ y ≠ .ref p) : ∀ y ∈ xs ++ ys, Thg K H y ∧ y ≠ .ref p := fun y hy => (List.mem_append.mp hy).elim (h1 y) (h2 y)
theorem thg_one {K : PySem.W.Frag} {H : Hp} {p : Addr} {x : V} (h : Thg K H x ∧ x ≠ .ref p) : ∀ y ∈ [x], Thg K H y ∧ y ≠ .ref p := fun y hy => by
  obtain rfl := List.mem_singleton.mp hy
  exact h
/-- the same, and the pot is nowhere in it -/
def TThgP (K : PySem.W.Frag) (H : Hp) (p : Addr) (x : V) (r : Bool) : Prop := (∃ a xs, x = .ref a ∧ SqT K H a xs ∧ (∀ y ∈ xs, Thg K H y ∧ y ≠ .ref p) ∧ r = deedX xs) ∨ (NTup K H x ∧ x ≠ .ref p ∧ r = false)
theorem TThgP.t {K : PySem.W.Frag} {H : Hp} {p : Addr} {x : V} {r : Bool} (h : TThgP K H p x r) : TThg K H x r := by
  rcases h with ⟨a, xs, e, h, hy, er⟩ | ⟨h, _, er⟩
  · exact .inl ⟨a, xs, e, h, fun y m => (hy y m).1, er⟩
  · exact .inr ⟨h, er⟩
theorem NTup.but {K : PySem.W.Frag} {H H' : Hp} {p : Addr} {x : V} (b : But p H H') (ne : x ≠ .ref p) (h : NTup K H x) : NTup K H' x := by
  have nq : ∀ a, x = .ref a → a ≠ p := fun a e z => ne (by rw [e, z])
  rcases h with ⟨a, xs, e, ha⟩ | ⟨a, kvs, e, ha⟩ | hs
  · refine .inl ⟨a, xs, e, ?_⟩
    rcases ha with (h | ⟨o, h⟩) | h
    · exact .inl (.inl (b _ _ (nq a e) h))
    · exact .inl (.inr ⟨o, b _ _ (nq a e) h⟩)
    · exact .inr h
  · exact .inr (.inl ⟨a, kvs, e, b _ _ (nq a e) ha⟩)
  · exact .inr (.inr hs)
theorem TThgP.but {K : PySem.W.Frag} {H H' : Hp} {p : Addr} {B : Int} {x : V} {r : Bool} (hp : PotOk H p B) (b : But p H H') (h : TThgP K H p x r) : TThgP K H' p x r := by
  rcases h with ⟨a, xs, e, h, hy, er⟩ | ⟨h, ne, er⟩
  · exact .inl ⟨a, xs, e, sqT_keep (hp.keep b) h, fun y m => ⟨Thg.but b (hy y m).2 (hy y m).1, (hy y m).2⟩, er⟩
  · exact .inr ⟨NTup.but b ne h, ne, er⟩
theorem TThgP.same {K : PySem.W.Frag} {H H' : Hp} {p : Addr} {x : V} {r : Bool} (s : Same H H') (h : TThgP K H p x r) : TThgP K H' p x r := by
  rcases h with ⟨a, xs, e, h, hy, er⟩ | ⟨h, ne, er⟩
  · exact .inl ⟨a, xs, e, sqT_same s h, fun y m => ⟨Thg.same s (hy y m).1, (hy y m).2⟩, er⟩
  · exact .inr ⟨NTup.but (But.of s) ne h, ne, er⟩
theorem tt {K : PySem.W.Frag} {H : Hp} {a : Addr} {xs : List V} (h : SqT K H a xs) {p : Addr} (hy : ∀ y ∈ xs, Thg K H y ∧ y ≠ .ref p) : ∃ r, TThgP K H p (.ref a) r := ⟨_, .inl ⟨a, xs, rfl, h, hy, rfl⟩⟩
section
variable {P : Program} {w : World} {K : PySem.W.Frag} {mg : Str → Option Value} {base : Heap}
def sp_law_odd_deed (K : PySem.W.Frag) : Sp := fun vs H Q _ => ∃ (p d : Addr) (xs : List V) (B : Int), vs = [.ref p, .ref d] ∧ FzT H d xs ∧ DeedX xs ∧ PotOk H p B ∧ B < 2 ^ 37 ∧
  ∀ (H' : Hp) (x : V), But p H H' → PotOk H' p (B + 10) → (∃ r, TThgP K H' p x r) → Q x H'
theorem ok_law_odd_deed (T : TX K mg) : FnOk P w K mg base CX0 2 (He.ga K "_law_odd_deed") T.fd_law_odd_deed ["pot", "deed"] (sp_law_odd_deed K) := by
  have G_law_take : FnOk P w K mg base CX0 1 (He.ga K "_law_take") T.fd_law_take ["pot", "many"] sp_law_take := ok_law_take T
  have b_law_take := b_law_take T
  refine T.F_law_odd_deed.ok sc_law_odd_deed (fun vs H Q E h => ?_) (fun cdv A outer st H vs Q E hr h => ?_)
  · obtain ⟨p, d, xs, B, rfl, _⟩ := h
    rfl
  · obtain ⟨p, d, xs, B, rfl, hd, hD, hp, hB, kq⟩ := h
    refine ⟨_, PSs.nox (pss_cons (ps_set (i := 2) sc_law_odd_deed.nd rfl (Or.inl rfl) (pe_call G_law_take (hr.mono (by first | decide | omega)) rfl T.g_law_take T.F_law_take.kp b_law_take .nil pass0 (pa_cons (pv 0) (pa_cons (pe_callB call_len_seq rfl T.n_len PySem.boot_len (pa_cons (pv 1) pa_nil)) pa_nil))))
 (pss_cons (ps_set (i := 3) sc_law_odd_deed.nd rfl (Or.inl rfl) (RU.pe_lstS (pa_cons (pe_un un_neg pe_int) (pa_cons (pe_op op_powW pe_int pe_int) (pa_cons (pe_op op_add (pe_op op_powW pe_int pe_int) pe_int) (pa_cons (pe_op op_add (pe_op op_powW pe_int pe_int) pe_int) (pa_cons pe_non (pa_cons pe_bl (pa_cons pe_bl (pa_cons pe_str (pa_cons (RU.pe_tupS (pa_cons pe_int pa_nil)) (pa_cons (RU.pe_lstS (pa_cons pe_int pa_nil)) (pa_cons (pe_op op_powW pe_int pe_int) pa_nil)))))))))))))
 (pss_cons (ps_if (pt_cmpR op_eq (pv 2) pe_int (nomark _))
 (pss_cons (ps_set (i := 4) sc_law_odd_deed.nd rfl (Or.inl rfl) (RU.pe_lstS (pa_cons pe_str (pa_cons pe_str (pa_cons pe_str (pa_cons pe_non (pa_cons pe_int (pa_cons (RU.pe_tupS (pa_cons pe_str pa_nil)) (pa_cons (RU.pe_lstS (pa_cons pe_str pa_nil)) (pa_cons pe_dnewK (pa_cons pe_str (pa_cons pe_str (pa_cons pe_str (pa_cons pe_str (pa_cons pe_str pa_nil)))))))))))))))
 (pss_one (ps_ret (pe_op EQT.op_catTS (RU.pe_tupS (pa_cons (pe_ix ix_list (pv 4) (pe_call G_law_take (hr.mono (by first | decide | omega)) rfl T.g_law_take T.F_law_take.kp b_law_take .nil pass0 (pa_cons (pv 0) (pa_cons pe_int pa_nil))) (fun _ _ => rfl)) pa_nil)) (pe_slice RU.sl_tupU (pv 1) (po_some pe_int) po_none)))))
 pss_nil)
 (pss_cons (ps_set (i := 5) sc_law_odd_deed.nd rfl (Or.inl rfl) (RU.pe_lstS (pa_cons (pe_op EQT.op_catTS (pe_op EQT.op_catTS (pe_slice RU.sl_tupU (pv 1) po_none (po_some (pv 2))) (RU.pe_tupS (pa_cons (pe_ix ix_list (pv 3) (pe_call G_law_take (hr.mono (by first | decide | omega)) rfl T.g_law_take T.F_law_take.kp b_law_take .nil pass0 (pa_cons (pv 0) (pa_cons pe_int pa_nil))) (fun _ _ => rfl)) pa_nil))) (pe_slice RU.sl_tupU (pv 1) (po_some (pe_op op_add (pv 2) pe_int)) po_none)) (pa_cons (pe_slice RU.sl_tupU (pv 1) po_none (po_some (pe_un un_neg pe_int))) (pa_cons (pe_op EQT.op_catTS (pv 1) (RU.pe_tupS (pa_cons pe_int pa_nil))) (pa_cons (pe_callTy RU.call_lstS rfl T.n_list (by decide +kernel) (pa_cons (pv 1) pa_nil)) (pa_cons (EQT.pe_revT (pv 1)) pa_nil)))))))
 (pss_cons (ps_set (i := 5) sc_law_odd_deed.nd rfl (Or.inl rfl) (pe_op RU.op_catLS (pv 5) (RU.pe_lstS (pa_cons (RU.pe_tupS (pa_cons (pv 1) pa_nil)) (pa_cons (pe_op EQT.op_catTS (pe_op EQT.op_catTS (pe_slice RU.sl_tupU (pv 1) po_none (po_some (pv 2))) (RU.pe_tupS (pa_cons (pe_op op_add (pe_ix ix_tup (pv 1) (pv 2) (fun _ _ => rfl)) pe_int) pa_nil))) (pe_slice RU.sl_tupU (pv 1) (po_some (pe_op op_add (pv 2) pe_int)) po_none)) (pa_cons (pe_op EQT.op_catTS (pe_slice RU.sl_tupU (pv 1) po_none (po_some pe_int)) (RU.pe_tupS (pa_cons (pe_ix ix_tup (pv 1) pe_int (fun _ _ => rfl)) (pa_cons (pe_ix ix_tup (pv 1) pe_int (fun _ _ => rfl)) pa_nil)))) pa_nil))))))
 (pss_one (ps_ret (pe_ix ix_list (pv 5) (pe_ix ix_list (RU.pe_lstS (pa_cons pe_int (pa_cons pe_int (pa_cons pe_int (pa_cons pe_int (pa_cons pe_int (pa_cons pe_int (pa_cons pe_int (pa_cons pe_int (pa_cons pe_int (pa_cons pe_int pa_nil))))))))))) (pe_call G_law_take (hr.mono (by first | decide | omega)) rfl T.g_law_take T.F_law_take.kp b_law_take .nil pass0 (pa_cons (pv 0) (pa_cons pe_int pa_nil))) (fun _ _ => rfl)) (fun _ _ => rfl))))))))), ?_⟩
    have lx : xs.length = 2 ∨ xs.length = 3 := by
      obtain ⟨w, ns, rfl, h1, h2⟩ := hD
      rw [List.length_cons, List.length_map]
      omega
    refine ⟨_, rfl, _, rfl, d, xs, rfl, .inr (FzT.sq hd), p, xs.length, B, rfl, by omega, by omega, hp, by omega, fun H1 w1 b1 hp1 l1 u1 => ?_⟩
    have hd1 : FzT H1 d xs := hd.keep (hp.keep b1)
    refine ⟨1, rfl, _, _, rfl, rfl, powW_of (a := 4) (by decide) (by decide) (by decide) (by decide), _, _, rfl, rfl, powW_of (a := 4) (by decide) (by decide) (by decide) (by decide), _, _, rfl, rfl, _, _, rfl, rfl, powW_of (a := 4) (by decide) (by decide) (by decide) (by decide), _, _, rfl, rfl, by show 1 ≤ sizeLine; decide, fun t1 Ha sa na ha => ⟨by show 1 ≤ sizeLine; decide, fun t2 Hb sb nb hb => ⟨_, _, rfl, rfl, powW_of (a := 4) (by decide) (by decide) (by decide) (by decide), by show 11 ≤ sizeLine; decide, fun nl Hc sc nc hc => ?_⟩⟩⟩
    obtain ⟨L, hL, lL, tL⟩ : ∃ L, Hc nl = some (HO.lst L) ∧ L.length = 11 ∧ ∀ y ∈ L, Thg K Hc y ∧ y ≠ .ref p := ⟨_, hc, rfl, fun y hy => by
      simp only [List.mem_cons, List.not_mem_nil, or_false] at hy
      rcases hy with rfl | rfl | rfl | rfl | rfl | rfl | rfl | rfl | rfl | rfl | rfl
      all_goals first
        | exact ⟨scal_thg rfl, nofun⟩
        | exact ⟨.inr (.inl ⟨t1, _, rfl, sqT_same (sb.trans sc) (FzT.sq ha)⟩), ref_ne (hp1.ne na)⟩
        | exact ⟨.inl ⟨t2, _, rfl, SqL.of (sc _ _ hb)⟩, ref_ne ((hp1.same sa).ne nb)⟩⟩
    have sac := (sa.trans sb).trans sc
    have hpc := hp1.same sac
    have hdc : FzT Hc d xs := FzT.same sac hd1
    have b1c := b1.trans (But.of sac)
    have npL : p ≠ nl := (hp1.same (sa.trans sb)).ne nc
    refine ⟨_, rfl, rfl, _, rfl, ?_⟩
    by_cases c0 : w1 = 0
    · rw [decide_eq_true (congrArg V.int c0)]
      refine iteT ⟨by show 1 ≤ sizeLine; decide, fun t3 Hd sd nd hd3 => ⟨by show 1 ≤ sizeLine; decide, fun t4 He se ne he => fun dd hdd => ⟨by show 13 ≤ sizeLine; decide, fun wl Hf sf nf hf => ?_⟩⟩⟩
      have sdd : Same He (upd He dd (.dK [])) := same_new hdd
      have hdd1 : upd He dd (.dK []) dd = some (.dK []) := upd_same
      obtain ⟨L2, hL2, lL2, tL2⟩ : ∃ L, Hf wl = some (HO.lst L) ∧ L.length = 13 ∧ ∀ y ∈ L, Thg K Hf y ∧ y ≠ .ref p := ⟨_, hf, rfl, fun y hy => by
        simp only [List.mem_cons, List.not_mem_nil, or_false] at hy
        rcases hy with rfl | rfl | rfl | rfl | rfl | rfl | rfl | rfl | rfl | rfl | rfl | rfl | rfl
        all_goals first
          | exact ⟨scal_thg rfl, nofun⟩
          | exact ⟨.inr (.inl ⟨t3, _, rfl, sqT_same ((se.trans sdd).trans sf) (FzT.sq hd3)⟩), ref_ne (hpc.ne nd)⟩
          | exact ⟨.inl ⟨t4, _, rfl, SqL.of ((sdd.trans sf) _ _ he)⟩, ref_ne ((hpc.same sd).ne ne)⟩
          | exact ⟨.inr (.inr (.inl ⟨dd, _, rfl, sf _ _ hdd1⟩)), ref_ne (((hpc.same sd).same se).ne hdd)⟩⟩
      have scf := ((sd.trans se).trans sdd).trans sf
      have hpf := hpc.same scf
      have npW : p ≠ wl := (((hpc.same sd).same se).same sdd).ne nf
      refine ⟨_, rfl, _, rfl, p, 13, _, rfl, by decide, by decide, hpf, by omega, fun Hg w2 bg hpg l2 u2 => ?_⟩
      obtain ⟨y, hy⟩ : ∃ y, L2[w2.toNat]? = some y := ⟨L2[w2.toNat]'(by omega), List.getElem?_eq_getElem _⟩
      refine ⟨wl, L2, _, y, rfl, rfl, SqL.of (bg _ _ npW.symm hL2), HX.at_of (j := w2.toNat) hy (by omega), ?_⟩
      have hTy : Thg K Hg y := Thg.but bg (tL2 y (List.mem_of_getElem? hy)).2 (tL2 y (List.mem_of_getElem? hy)).1
      refine ⟨by show 1 ≤ sizeLine; decide, fun q1 Hh sh nq1 hq1 => ?_⟩
      have hdh : FzT Hh d xs := FzT.same sh (FzT.keep (hpf.keep bg) (FzT.same scf hdc))
      refine ⟨_, rfl, 1, rfl, d, xs, rfl, FzT.sq hdh, fun q2 Hi si hq2 => ?_⟩
      refine ⟨q1, q2, _, _, rfl, rfl, sqT_same si (FzT.sq hq1), hq2, ?_, fun q3 Hj sj hq3 => ?_⟩
      · have z := cutV_length xs (some 1) none
        show 1 + (cutV xs (some 1) none).length ≤ sizeLine
        exact Nat.le_trans (by omega : _ ≤ 100) (by decide)
      refine kq Hj _ ((((b1c.trans (But.of scf)).trans bg).trans (But.of sh)).trans (But.of (si.trans sj))) (((hpg.same sh).same (si.trans sj)).le (by omega)) (tt hq3 (thg_app (thg_one ⟨Thg.same (sh.trans (si.trans sj)) hTy, (tL2 y (List.mem_of_getElem? hy)).2⟩) fun y hy => deed_thg hD y (cut_mem hy)))
    · rw [decide_eq_false (fun z => c0 (by injection z))]
      refine iteF ?_
      have dth : ∀ {Hx : Hp} {lo hi : Option Int}, ∀ y ∈ cutV xs lo hi, Thg K Hx y ∧ y ≠ .ref p := fun y hy => deed_thg hD y (cut_mem hy)
      have cl : ∀ lo hi : Option Int, (cutV xs lo hi).length ≤ 3 := fun lo hi => Nat.le_trans (cutV_length xs lo hi) (by omega)
      have sl : ∀ {n : Nat}, n ≤ 100 → n ≤ sizeLine := fun h => Nat.le_trans h (by decide)
      refine ⟨_, rfl, _, rfl, w1, rfl, d, xs, rfl, FzT.sq hdc, fun s1 Hd sd hs1 => ?_⟩
      have hpd := hpc.same sd
      refine ⟨_, rfl, _, rfl, p, 11, _, rfl, by decide, by decide, hpd, by omega, fun He w2 be hpe l2 u2 => ?_⟩
      obtain ⟨y, hy⟩ : ∃ y, L[w2.toNat]? = some y := ⟨L[w2.toNat]'(by omega), List.getElem?_eq_getElem _⟩
      refine ⟨nl, L, _, y, rfl, rfl, SqL.of (be _ _ npL.symm (sd _ _ hL)), HX.at_of (j := w2.toNat) hy (by omega), by show 1 ≤ sizeLine; decide, fun q1 Hf sf nq1 hq1 => ?_⟩
      have hTy : Thg K He y := Thg.but be (tL y (List.mem_of_getElem? hy)).2 (Thg.same sd (tL y (List.mem_of_getElem? hy)).1)
      have ke := hpd.keep be
      have hpf := hpe.same sf
      have hs1f := sqT_same sf (sqT_keep ke hs1)
      have hdf : FzT Hf d xs := FzT.same sf (FzT.keep ke (FzT.same sd hdc))
      have ny : y ≠ .ref p := (tL y (List.mem_of_getElem? hy)).2
      refine ⟨s1, q1, _, _, rfl, rfl, hs1f, FzT.sq hq1, sl (by have := cl none (some w1); show (cutV xs none (some w1)).length + 1 ≤ 100; omega), fun q2 Hg sg hq2 => ?_⟩
      refine ⟨_, rfl, _, rfl, _, _, rfl, rfl, _, rfl, d, xs, rfl, sqT_same sg (FzT.sq hdf), fun s3 Hh sh hs3 => ?_⟩
      have hdh : FzT Hh d xs := FzT.same sh (FzT.same sg hdf)
      refine ⟨q2, s3, _, _, rfl, rfl, sqT_same sh hq2, hs3, sl (by have := cl none (some w1); have := cl (some (w1 + 1)) none; show ((cutV xs none (some w1)) ++ [y]).length + (cutV xs (some (w1 + 1)) none).length ≤ 100; rw [List.length_append, List.length_singleton]; omega), fun e1 Hi si he1 => ?_⟩
      have hdi : FzT Hi d xs := FzT.same si hdh
      -- the last out
      refine ⟨_, rfl, _, rfl, -1, rfl, d, xs, rfl, FzT.sq hdi, fun e2 Hj sj he2 => ?_⟩
      have hdj : FzT Hj d xs := FzT.same sj hdi
      refine ⟨_, rfl, by show 1 ≤ sizeLine; decide, fun t1' Hk sk nk ht1 => ?_⟩
      have hdk : FzT Hk d xs := FzT.same sk hdj
      refine ⟨d, t1', _, _, rfl, rfl, FzT.sq hdk, FzT.sq ht1, sl (by show xs.length + 1 ≤ 100; omega), fun e3 Hl sl3 he3 => ?_⟩
      have hdl : FzT Hl d xs := FzT.same sl3 hdk
      refine ⟨_, rfl, d, xs, rfl, .inr (FzT.sq hdl), fun e4 Hm sm ne4 he4 => ?_⟩
      have hdm : FzT Hm d xs := FzT.same sm hdl
      refine ⟨_, rfl, d, xs, rfl, FzT.sq hdm, fun e5 Hn sn ne5 he5 => ?_⟩
      refine ⟨by show 5 ≤ sizeLine; decide, fun la Ho so nla hla => ?_⟩
      have hdo : FzT Ho d xs := FzT.same so (FzT.same sn hdm)
      obtain ⟨n7, hn7⟩ : ∃ n : Int, xs[w1.toNat]? = some (.int n) := by
        obtain ⟨wd, ns, rfl, h1, h2⟩ := hD
        rw [List.length_cons, List.length_map] at u1 lx
        have hm : ∃ m, w1.toNat = m + 1 ∧ m < ns.length := ⟨w1.toNat - 1, by omega, by omega⟩
        obtain ⟨m, em, lm⟩ := hm
        rw [em, List.getElem?_cons_succ, List.getElem?_map, List.getElem?_eq_getElem lm]
        exact ⟨_, rfl⟩
      obtain ⟨n8, hn8⟩ : ∃ n : Int, xs[1]? = some (.int n) := by
        obtain ⟨wd, ns, rfl, h1, h2⟩ := hD
        rw [show (1 : Nat) = 0 + 1 from rfl, List.getElem?_cons_succ, List.getElem?_map, List.getElem?_eq_getElem (by omega : 0 < ns.length)]
        exact ⟨_, rfl⟩
      refine ⟨_, rfl, _, rfl, by show 1 ≤ sizeLine; decide, fun e6 G6 g6 ne6 he6 => ?_⟩
      have d6 : FzT G6 d xs := FzT.same g6 hdo
      refine ⟨_, rfl, _, rfl, w1, rfl, d, xs, rfl, FzT.sq d6, fun s7 G7 g7 hs7 => ?_⟩
      have d7 : FzT G7 d xs := FzT.same g7 d6
      refine ⟨_, rfl, _, rfl, d, xs, w1, _, rfl, rfl, FzT.sq d7, HX.at_of (j := w1.toNat) hn7 (by omega), n7, 1, rfl, rfl, by show 1 ≤ sizeLine; decide, fun t7 G8 g8 nt7 ht7 => ?_⟩
      have d8 : FzT G8 d xs := FzT.same g8 d7
      refine ⟨s7, t7, _, _, rfl, rfl, sqT_same g8 hs7, FzT.sq ht7, sl (by have := cl none (some w1); show (cutV xs none (some w1)).length + 1 ≤ 100; omega), fun u7 G9 g9 hu7 => ?_⟩
      have d9 : FzT G9 d xs := FzT.same g9 d8
      refine ⟨_, rfl, _, rfl, _, _, rfl, rfl, _, rfl, d, xs, rfl, FzT.sq d9, fun v7 GA gA hv7 => ?_⟩
      have dA : FzT GA d xs := FzT.same gA d9
      refine ⟨u7, v7, _, _, rfl, rfl, sqT_same gA hu7, hv7, sl (by have := cl none (some w1); have := cl (some (w1 + 1)) none; show ((cutV xs none (some w1)) ++ [_]).length + (cutV xs (some (w1 + 1)) none).length ≤ 100; rw [List.length_append, List.length_singleton]; omega), fun e7 GB gB he7 => ?_⟩
      have dB : FzT GB d xs := FzT.same gB dA
      refine ⟨_, rfl, 1, rfl, d, xs, rfl, FzT.sq dB, fun s8 GC gC hs8 => ?_⟩
      have dC : FzT GC d xs := FzT.same gC dB
      refine ⟨_, rfl, d, xs, 1, _, rfl, rfl, FzT.sq dC, HX.at_of (j := 1) hn8 rfl, _, rfl, d, xs, 1, _, rfl, rfl, FzT.sq dC, HX.at_of (j := 1) hn8 rfl, by show 2 ≤ sizeLine; decide, fun t8 GD gD nt8 ht8 => ?_⟩
      refine ⟨s8, t8, _, _, rfl, rfl, sqT_same gD hs8, FzT.sq ht8, sl (by have := cl none (some 1); show (cutV xs none (some 1)).length + 2 ≤ 100; omega), fun e8 GE gE he8 => ?_⟩
      refine ⟨by show 3 ≤ sizeLine; decide, fun lb GF gF nlb hlb => ?_⟩
      have go : Same Ho GF := (((((((((g6.trans g7).trans g8).trans g9).trans gA).trans gB).trans gC).trans gD).trans gE).trans gF)
      refine ⟨la, lb, _, _, rfl, rfl, go _ _ hla, hlb, by show 5 + 3 ≤ sizeLine; decide, fun lc GG gG nlc hlc => ?_⟩
      refine ⟨_, rfl, by show 10 ≤ sizeLine; decide, fun li GH gH nli hli => ?_⟩
      have soH : Same Ho GH := (go.trans gG).trans gH
      have snH : Same Hn GH := so.trans soH
      have slH : Same Hl GH := (sm.trans sn).trans snH
      have sjH : Same Hj GH := (sk.trans sl3).trans slH
      have hpi : PotOk Hi p (B + 2) := ((hpf.same sg).same sh).same si |>.le (by omega)
      have hpH : PotOk GH p (B + 2) := (hpi.same sj).same sjH
      have npc : p ≠ lc := ((hpi.same sj).same (((sk.trans sl3).trans ((sm.trans sn).trans (so.trans go))))).ne nlc
      have npli : p ≠ li := ((hpi.same sj).same (((sk.trans sl3).trans ((sm.trans sn).trans (so.trans (go.trans gG)))))).ne nli
      refine ⟨_, rfl, p, 10, _, rfl, by decide, by decide, hpH, by omega, fun GZ w3 bz hpz l3 u3 => ?_⟩
      have kz := hpH.keep bz
      have tz : ∀ {a : Addr} {ys : List V}, SqT K GH a ys → (∀ y ∈ ys, Thg K GZ y ∧ y ≠ .ref p) → ∃ r, TThgP K GZ p (.ref a) r := fun h hy => tt (sqT_keep kz h) hy
      have siH : Same Hi GH := sj.trans sjH
      have sfH : Same Hf GH := ((sg.trans sh).trans si).trans siH
      have dZ : FzT GZ d xs := FzT.keep kz (FzT.same sfH hdf)
      have hyZ : Thg K GZ y := Thg.but bz ny (Thg.same (sf.trans sfH) hTy)
      have ne4p : e4 ≠ p := ((hpi.same sj).same (sk.trans sl3)).ne ne4 |>.symm
      have itg : ∀ {Hx : Hp} (ns : List Int), ∀ y ∈ ns.map V.int, Thg K Hx y ∧ y ≠ .ref p := fun ns y hy => by
        obtain ⟨n, _, rfl⟩ := List.mem_map.mp hy
        exact ⟨scal_thg rfl, nofun⟩
      have all : ∀ x ∈ ([.ref e1, .ref e2, .ref e3, .ref e4, .ref e5] ++ [.ref e6, .ref e7, .ref e8] : List V), ∃ r, TThgP K GZ p x r := by
        intro x hx
        simp only [List.cons_append, List.nil_append, List.mem_cons, List.not_mem_nil, or_false] at hx
        rcases hx with rfl | rfl | rfl | rfl | rfl | rfl | rfl | rfl
        · exact tz (sqT_same siH he1) (thg_app (thg_app dth (thg_one ⟨hyZ, ny⟩)) dth)
        · exact tz (sqT_same sjH he2) dth
        · exact tz (sqT_same slH he3) (thg_app (deed_thg hD) (itg [1]))
        · exact ⟨false, .inr ⟨.inl ⟨e4, xs, rfl, SqL.of (bz _ _ ne4p ((sn.trans snH) _ _ he4))⟩, (fun z => ne4p (by injection z)), rfl⟩⟩
        · exact tz (sqT_same snH (FzT.sq he5)) fun y hy => deed_thg hD y (List.mem_reverse.mp hy)
        · exact tz (sqT_same ((((((((((g7.trans g8).trans g9).trans gA).trans gB).trans gC).trans gD).trans gE).trans gF).trans gG).trans gH) (FzT.sq he6)) (thg_one ⟨.inr (.inl ⟨d, xs, rfl, FzT.sq dZ⟩), fun z => by
            obtain ⟨o, hdo', _⟩ := hd
            have ed : d = p := by injection z
            rw [ed] at hdo'
            exact absurd (hp.noTup _ hdo') nofun⟩)
        · exact tz (sqT_same (((((gC.trans gD).trans gE).trans gF).trans gG).trans gH) he7) (thg_app (thg_app dth (itg [_])) dth)
        · exact tz (sqT_same ((gF.trans gG).trans gH) he8) (thg_app dth (itg [_, _]))
      have pick : ∃ k : Nat, atI [V.int 0, V.int 0, V.int 0, V.int 1, V.int 2, V.int 3, V.int 4, V.int 5, V.int 6, V.int 7] w3 = some (.int (k : Int)) ∧ k < 8 := by
        rcases (by omega : w3 = 0 ∨ w3 = 1 ∨ w3 = 2 ∨ w3 = 3 ∨ w3 = 4 ∨ w3 = 5 ∨ w3 = 6 ∨ w3 = 7 ∨ w3 = 8 ∨ w3 = 9) with rfl | rfl | rfl | rfl | rfl | rfl | rfl | rfl | rfl | rfl
        · exact ⟨0, rfl, by decide⟩
        · exact ⟨0, rfl, by decide⟩
        · exact ⟨0, rfl, by decide⟩
        · exact ⟨1, rfl, by decide⟩
        · exact ⟨2, rfl, by decide⟩
        · exact ⟨3, rfl, by decide⟩
        · exact ⟨4, rfl, by decide⟩
        · exact ⟨5, rfl, by decide⟩
        · exact ⟨6, rfl, by decide⟩
        · exact ⟨7, rfl, by decide⟩
      obtain ⟨k, hk, k8⟩ := pick
      have hz : ∃ x, ([.ref e1, .ref e2, .ref e3, .ref e4, .ref e5] ++ [.ref e6, .ref e7, .ref e8] : List V)[k]? = some x := ⟨_, List.getElem?_eq_getElem (show k < 8 from k8)⟩
      obtain ⟨x, hx⟩ := hz
      refine ⟨li, _, _, _, rfl, rfl, SqL.of (bz _ _ npli.symm hli), hk, lc, _, _, x, rfl, rfl, SqL.of (bz _ _ npc.symm (gH _ _ hlc)), HX.at_of (j := k) hx rfl, ?_⟩
      refine kq GZ x ?_ (hpz.le (by omega)) (all x (List.mem_of_getElem? hx))
      exact (((b1c.trans (But.of sd)).trans be).trans (But.of (sf.trans sfH))).trans bz
end
end K22

namespace K22
open PySem PySem.Spec PyProof.Rows L2 RZ HX TR RP EQT
section
variable {P : Program} {w : World} {K : PySem.W.Frag} {mg : Str → Option Value} {base : Heap}
def sp_law (K : PySem.W.Frag) : Sp := fun vs H Q _ => ∃ (a : Addr) (ns : List Int), vs = [.ref a] ∧ SqL K H a (ns.map V.int) ∧ ns.length ≤ 63 ∧ ∀ H', Q (.bl true) H'
theorem same_but {H0 H H' : Hp} {p : Addr} (s : Same H0 H) (n : H0 p = none) (b : But p H H') : Same H0 H' := fun c o z => b c o (ne_of_none z n) (s c o z)
theorem TThg.same {H H' : Hp} {x : V} {r : Bool} (s : Same H H') (h : TThg K H x r) : TThg K H' x r := by
  rcases h with ⟨a, xs, e, h, hy, er⟩ | ⟨h, er⟩
  · exact .inl ⟨a, xs, e, sqT_same s h, fun y m => Thg.same s (hy y m), er⟩
  · refine .inr ⟨?_, er⟩
    rcases h with ⟨a, xs, e, h⟩ | ⟨a, kvs, e, h⟩ | h
    · exact .inl ⟨a, xs, e, s.seq h⟩
    · exact .inr (.inl ⟨a, kvs, e, s _ _ h⟩)
    · exact .inr (.inr h)
theorem span_all : deedX [.str "span", .int 0, .int (1000000000 + 1)] = true := by decide +kernel
theorem walk_all : deedX [.str "walk", .int 1000000000, .int (1000000000 + 1)] = true := by decide +kernel
theorem ok_law (T : TX K mg) : FnOk P w K mg base CX0 7 (He.ga K "law") T.fd_law ["script"] (sp_law K) := by
  have G_law_pot : FnOk P w K mg base CX0 1 (He.ga K "_law_pot") T.fd_law_pot ["script", "k"] (sp_law_pot K) := ok_law_pot T
  have G_law_take : FnOk P w K mg base CX0 1 (He.ga K "_law_take") T.fd_law_take ["pot", "many"] sp_law_take := ok_law_take T
  have G_law_deed : FnOk P w K mg base CX0 3 (He.ga K "_law_deed") T.fd_law_deed ["pot", "pairs", "kinds"] sp_law_deed := ok_law_deed T
  have G_law_odd_deed : FnOk P w K mg base CX0 2 (He.ga K "_law_odd_deed") T.fd_law_odd_deed ["pot", "deed"] (sp_law_odd_deed K) := ok_law_odd_deed T
  have G_is_deed : FnOk P w K mg base CX0 5 (He.ga K "is_deed") T.fd_is_deed ["thing"] (sp_is_deed K) := ok_is_deed T
  have G_law_is_deed : FnOk P w K mg base CX0 1 (He.ga K "_law_is_deed") T.fd_law_is_deed ["thing"] (sp_is_deed K) := ok_law_is_deed T
  have b_law_pot := b_law_pot T
  have b_law_take := b_law_take T
  have b_law_deed := b_law_deed T
  have b_law_odd_deed := b_law_odd_deed T
  have b_is_deed := b_is_deed T
  have b_law_is_deed := b_law_is_deed T
  refine T.F_law.ok sc_law (fun vs H Q E h => ?_) (fun cdv A outer st H vs Q E hr h => ?_)
  · obtain ⟨a, ns, rfl, _⟩ := h
    rfl
  · obtain ⟨a, ns, rfl, hS, hlen, kq⟩ := h
    refine ⟨_, PSs.nox (pss_cons (ps_set (i := 1) sc_law.nd rfl (Or.inl rfl) (RU.pe_lstS (pa_cons pe_str (pa_cons pe_str (pa_cons pe_str (pa_cons pe_str (pa_cons pe_str pa_nil)))))))
 (pss_cons (ps_for PassesOwn.never rfl (pi_range1 rfl T.n_range (pa_cons (pe_callB (call_max2 rfl) rfl T.n_max (by decide +kernel) (pa_cons pe_int (pa_cons (pe_callB (call_min2 rfl) rfl T.n_min (by decide +kernel) (pa_cons pe_int (pa_cons (pe_callB call_len_seq rfl T.n_len PySem.boot_len (pa_cons (pv 0) pa_nil)) pa_nil))) pa_nil))) pa_nil)) (pg_name (i := 2) sc_law.nd rfl (Or.inl rfl))
 (pss_cons (ps_set (i := 3) sc_law.nd rfl (Or.inl rfl) (pe_call G_law_pot (hr.mono (by first | decide | omega)) rfl T.g_law_pot T.F_law_pot.kp b_law_pot .nil pass0 (pa_cons (pv 0) (pa_cons (pv 2) pa_nil))))
 (pss_one (ps_for PassesOwn.never rfl (pi_range1 rfl T.n_range (pa_cons pe_int pa_nil)) (pg_name (i := 4) sc_law.nd rfl (Or.inl rfl))
 (pss_cons (ps_set (i := 5) sc_law.nd rfl (Or.inl rfl) (pe_call G_law_deed (hr.mono (by first | decide | omega)) rfl T.g_law_deed T.F_law_deed.kp b_law_deed .nil pass0 (pa_cons (pv 3) (pa_cons (RU.pe_tupS (pa_cons (pe_tup (pa_cons (pe_call G_law_take (hr.mono (by first | decide | omega)) rfl T.g_law_take T.F_law_take.kp b_law_take .nil pass0 (pa_cons (pv 3) (pa_cons pe_int pa_nil))) (pa_cons pe_int pa_nil))) (pa_cons (pe_tup (pa_cons (pe_op op_powW pe_int pe_int) (pa_cons pe_int pa_nil))) pa_nil))) (pa_cons (pv 1) pa_nil)))))
 (pss_cons (ps_set (i := 6) sc_law.nd rfl (Or.inl rfl) (RU.pe_lstS (pa_cons (pv 5) (pa_cons (pe_call G_law_odd_deed (hr.mono (by first | decide | omega)) rfl T.g_law_odd_deed T.F_law_odd_deed.kp b_law_odd_deed .nil pass0 (pa_cons (pv 3) (pa_cons (pv 5) pa_nil))) (pa_cons (pe_call G_law_odd_deed (hr.mono (by first | decide | omega)) rfl T.g_law_odd_deed T.F_law_odd_deed.kp b_law_odd_deed .nil pass0 (pa_cons (pv 3) (pa_cons (pv 5) pa_nil))) pa_nil)))))
 (pss_cons (ps_expr (pe_bm PySem.F.plainAttrs_list PySem.F.slot_list_append PySem.F.type_list_append mt_append (pv 6) (pa_cons (pe_ix ix_list (RU.pe_lstS (pa_cons pe_non (pa_cons pe_int (pa_cons pe_bl (pa_cons pe_str (pa_cons (RU.pe_lstS pa_nil) (pa_cons (RU.pe_tupS pa_nil) (pa_cons pe_dnewK (pa_cons (RU.pe_tupS (pa_cons pe_str pa_nil)) (pa_cons (RU.pe_tupS (pa_cons (RU.pe_tupS pa_nil) pa_nil)) (pa_cons (RU.pe_tupS (pa_cons (pv 5) (pa_cons (pv 5) pa_nil))) pa_nil))))))))))) (pe_call G_law_take (hr.mono (by first | decide | omega)) rfl T.g_law_take T.F_law_take.kp b_law_take .nil pass0 (pa_cons (pv 3) (pa_cons pe_int pa_nil))) (fun _ _ => rfl)) pa_nil)))
 (pss_one (ps_for PassesOwn.never rfl (pi_list (pv 6)) (pg_name (i := 7) sc_law.nd rfl (Or.inl rfl))
 (pss_cons (ps_set (i := 8) sc_law.nd rfl (Or.inl rfl) (pe_call G_is_deed (hr.mono (by first | decide | omega)) rfl T.g_is_deed T.F_is_deed.kp b_is_deed .nil pass0 (pa_cons (pv 7) pa_nil)))
 (pss_one (ps_if (PW.pt (pw_or (pt_not (pt_val (pe_callB call_isi rfl T.n_isinstance (by decide +kernel) (pa_cons (pv 8) (pa_cons (pe_ty "bool" T.n_bool (by decide +kernel)) pa_nil))))) (pw_or1 (pt_cmpR op_ne (pv 8) (pe_call G_law_is_deed (hr.mono (by first | decide | omega)) rfl T.g_law_is_deed T.F_law_is_deed.kp b_law_is_deed .nil pass0 (pa_cons (pv 7) pa_nil)) (nomark _)))))
 (pss_one (ps_ret pe_bl))
 pss_nil))))))))))))
 (pss_one (ps_ret (pe_and (pe_cmpR op_isBl (pe_call G_is_deed (hr.mono (by first | decide | omega)) rfl T.g_is_deed T.F_is_deed.kp b_is_deed .nil pass0 (pa_cons (RU.pe_tupS (pa_cons pe_str (pa_cons pe_int (pa_cons (pe_op op_add (pe_op op_powW pe_int pe_int) pe_int) pa_nil)))) pa_nil)) pe_bl (nomark _)) (pe_one (pe_cmpR op_isBl (pe_call G_is_deed (hr.mono (by first | decide | omega)) rfl T.g_is_deed T.F_is_deed.kp b_is_deed .nil pass0 (pa_cons (RU.pe_tupS (pa_cons pe_str (pa_cons (pe_op op_powW pe_int pe_int) (pa_cons (pe_op op_add (pe_op op_powW pe_int pe_int) pe_int) pa_nil)))) pa_nil)) pe_bl (nomark _)))))))), ?_⟩
    refine ⟨by show 5 ≤ sizeLine; decide, fun kl H0 s0 nkl hkl => ?_⟩
    replace hkl : H0 kl = some (.lst ((["find", "put", "drop", "span", "walk"] : List Str).map V.str)) := hkl
    refine ⟨_, rfl, a, _, rfl, .inl (s0.seq hS), _, _, rfl, _, _, rfl, _, rfl, ?_, ?_, ?_⟩
    · split <;> split <;> omega
    · split <;> split <;> omega
    refine for_range (fun i σ H' => ∃ v2 v3 v4 v5 v6 v7 v8, σ = [some (.ref a), some (.ref kl), v2, v3, v4, v5, v6, v7, v8] ∧ Same H0 H') ⟨_, _, _, _, _, _, _, rfl, Same.refl H0⟩ ?_ ?_
    · rintro i σ H1 hi ⟨v2, v3, v4, v5, v6, v7, v8, rfl, s1⟩
      have hi6 : i ≤ 1000 := by
        revert hi
        split <;> split <;> omega
      refine ⟨_, rfl, _, rfl, a, ns, i, by rw [Int.zero_add]; rfl, (s0.trans s1).seq hS, hi6, fun H2 p s2 np hp => ?_⟩
      have npH : H0 p = none := Same.free s1 np
      have npk : p ≠ kl := (ne_of_none (s1 _ _ hkl) np).symm
      refine ⟨_, rfl, by decide, by decide, ?_⟩
      refine for_range (fun j σ H' => ∃ v2 v4 v5 v6 v7 v8, σ = [some (.ref a), some (.ref kl), v2, some (.ref p), v4, v5, v6, v7, v8] ∧ Same H0 H' ∧ PotOk H' p (1 + 1000 * j)) ⟨_, _, _, _, _, _, rfl, s1.trans s2, hp.le (by omega)⟩ ?_ ?_
      · rintro j σ H3 hj ⟨v2, v4, v5, v6, v7, v8, rfl, s3, hp3⟩
        have hj12 : j < 12 := by omega
        refine ⟨_, rfl, _, rfl, p, 30, _, rfl, by decide, by decide, hp3, by omega, fun H4 w4 b4 hp4 l4 u4 => ?_⟩
        refine ⟨by show 2 ≤ sizeLine; decide, fun r1 hr1 => ?_⟩
        have hr1' : upd H4 r1 (.tup [.int w4, .int 0]) r1 = some (.tup [.int w4, .int 0]) := upd_same
        have sr1 : Same H4 (upd H4 r1 (.tup [.int w4, .int 0])) := same_new hr1
        generalize upd H4 r1 (.tup [.int w4, .int 0]) = Ha at hr1' sr1
        refine ⟨_, _, rfl, rfl, powW_of (a := 4) (by decide) (by decide) (by decide) (by decide), by show 2 ≤ sizeLine; decide, fun r2 hr2 => ?_⟩
        have e9 : (10 : Int) ^ (9 : Int).toNat = 1000000000 := by decide
        have hr2' : upd Ha r2 (.tup [.int ((10 : Int) ^ (9 : Int).toNat), .int 1]) r2 = some (.tup [.int ((10 : Int) ^ (9 : Int).toNat), .int 1]) := upd_same
        have sr2 : Same Ha (upd Ha r2 (.tup [.int ((10 : Int) ^ (9 : Int).toNat), .int 1])) := same_new hr2
        refine ⟨by show 2 ≤ sizeLine; decide, fun g H5 s5 ng hg => ?_⟩
        have s45 := (sr1.trans sr2).trans s5
        have hprt : PrT H5 g [(w4, 0), (1000000000, 1)] := ⟨_, hg, .cons ⟨r1, rfl, (sr2.trans s5) _ _ hr1'⟩ (.cons ⟨r2, rfl, by rw [← e9]; exact s5 _ _ hr2'⟩ .nil)⟩
        have s4 : Same H0 H4 := same_but s3 npH b4
        have hp5 := hp4.same s45
        refine ⟨_, rfl, p, g, kl, [(w4, 0), (1000000000, 1)], ["find", "put", "drop", "span", "walk"], _, rfl, hprt, ?_, (show 2 ≤ 2000 by decide), (s4.trans s45) _ _ hkl, by decide, by decide, npk, hp5, by omega, fun H6 d xs b6 hp6 hd hD => ?_⟩
        · intro q hq
          rcases List.mem_cons.mp hq with rfl | hq
          · exact ⟨l4, by show w4 ≤ 1000000000; omega, (show (0 : Int) ≤ 0 by decide), (show (0 : Int) ≤ 1000000000 by decide)⟩
          · obtain rfl := List.mem_singleton.mp hq
            exact ⟨by decide, by decide, by decide, by decide⟩
        refine ⟨_, rfl, _, rfl, _, rfl, p, d, xs, _, rfl, hd, hD, hp6, by omega, fun H7 x1 b7 hp7 ⟨q1, hx1⟩ => ?_⟩
        have hd7 : FzT H7 d xs := hd.keep (hp6.keep b7)
        refine ⟨_, rfl, _, rfl, p, d, xs, _, rfl, hd7, hD, hp7, by omega, fun H8 x2 b8 hp8 ⟨q2, hx2⟩ => ?_⟩
        have hd8 : FzT H8 d xs := hd7.keep (hp7.keep b8)
        have hx1' := TThgP.but hp7 b8 hx1
        refine ⟨by show 3 ≤ sizeLine; decide, fun tl H9 s9 ntl htl => ?_⟩
        have hd9 : FzT H9 d xs := FzT.same s9 hd8
        have hp9 := hp8.same s9
        have s69 : Same H0 H9 := (same_but (same_but (same_but (s4.trans s45) npH b6) npH b7) npH b8).trans s9
        refine ⟨_, rfl, .inl ⟨rfl, _, SqL.of htl⟩, by show 0 ≤ sizeLine; decide, fun n1 Hb sb nn1 hn1 => ⟨by show 0 ≤ sizeLine; decide, fun n2 Hc sc nn2 hn2 => fun dd hdd => ⟨by show 1 ≤ sizeLine; decide, fun n3 He se nn3 hn3 => ⟨by show 0 ≤ sizeLine; decide, fun n4 Hf sf nn4 hn4 => ⟨by show 1 ≤ sizeLine; decide, fun n5 Hg sg nn5 hn5 => ⟨_, rfl, _, rfl, by show 2 ≤ sizeLine; decide, fun n6 Hh sh nn6 hn6 => ⟨by show 10 ≤ sizeLine; decide, fun ll Hi si nll hll => ?_⟩⟩⟩⟩⟩⟩⟩
        have sdd : Same Hc (upd Hc dd (.dK [])) := same_new hdd
        have hdd1 : upd Hc dd (.dK []) dd = some (.dK []) := upd_same
        have s9i : Same H9 Hi := ((((((sb.trans sc).trans sdd).trans se).trans sf).trans sg).trans sh).trans si
        have hpI := hp9.same s9i
        have hdI : FzT Hi d xs := FzT.same s9i hd9
        have ht9 : ∀ {c : Addr}, H9 c = none → c ≠ tl := fun h z => by rw [z, htl] at h; cases h
        have hp9' : ∀ {c : Addr}, H9 c = none → c ≠ p := fun h => (hp9.ne h).symm
        have f1 : H9 n1 = none := nn1
        have f2 : H9 n2 = none := Same.free sb nn2
        have fd : H9 dd = none := Same.free (sb.trans sc) hdd
        have f3 : H9 n3 = none := Same.free ((sb.trans sc).trans sdd) nn3
        have f4 : H9 n4 = none := Same.free (((sb.trans sc).trans sdd).trans se) nn4
        have f5 : H9 n5 = none := Same.free ((((sb.trans sc).trans sdd).trans se).trans sf) nn5
        have f6 : H9 n6 = none := Same.free (((((sb.trans sc).trans sdd).trans se).trans sf).trans sg) nn6
        have pd : d ≠ p := fun z => by
          obtain ⟨o, h, _⟩ := hd9
          rw [z] at h
          exact absurd (hp9.noTup _ h) nofun
        have td : d ≠ tl := fun z => by
          obtain ⟨o, h, _⟩ := hd9
          rw [z, htl] at h
          cases h
        obtain ⟨L, hL, lL, tL⟩ : ∃ L, Hi ll = some (HO.lst L) ∧ L.length = 10 ∧ ∀ y ∈ L, ∃ r, ∀ H'' : Hp, (∀ b o, Hi b = some o → b ≠ p → b ≠ tl → H'' b = some o) → TThg K H'' y r := ⟨_, hll, rfl, fun y hy => by
          have fz : ∀ {H'' : Hp} {c : Addr} {ys : List V}, (∀ b o, Hi b = some o → b ≠ p → b ≠ tl → H'' b = some o) → FzT Hi c ys → c ≠ p → c ≠ tl → SqT K H'' c ys := fun lf h c1 c2 => by
            obtain ⟨o, h, ho⟩ := h
            exact .inl (.inr ⟨o, lf _ _ h c1 c2⟩)
          simp only [List.mem_cons, List.not_mem_nil, or_false] at hy
          rcases hy with rfl | rfl | rfl | rfl | rfl | rfl | rfl | rfl | rfl | rfl
          · exact ⟨_, fun _ _ => .inr ⟨.inr (.inr rfl), rfl⟩⟩
          · exact ⟨_, fun _ _ => .inr ⟨.inr (.inr rfl), rfl⟩⟩
          · exact ⟨_, fun _ _ => .inr ⟨.inr (.inr rfl), rfl⟩⟩
          · exact ⟨_, fun _ _ => .inr ⟨.inr (.inr rfl), rfl⟩⟩
          · exact ⟨_, fun _ lf => .inr ⟨.inl ⟨n1, [], rfl, SqL.of (lf _ _ (((((((sc.trans sdd).trans se).trans sf).trans sg).trans sh).trans si) _ _ hn1) (hp9' f1) (ht9 f1))⟩, rfl⟩⟩
          · exact ⟨_, fun _ lf => .inl ⟨n2, [], rfl, fz lf (FzT.same (((((sdd.trans se).trans sf).trans sg).trans sh).trans si) hn2) (hp9' f2) (ht9 f2), nofun, rfl⟩⟩
          · exact ⟨_, fun _ lf => .inr ⟨.inr (.inl ⟨dd, [], rfl, lf _ _ (((((se.trans sf).trans sg).trans sh).trans si) _ _ hdd1) (hp9' fd) (ht9 fd)⟩), rfl⟩⟩
          · exact ⟨_, fun _ lf => .inl ⟨n3, _, rfl, fz lf (FzT.same (((sf.trans sg).trans sh).trans si) hn3) (hp9' f3) (ht9 f3), (fun y hy => by obtain rfl := List.mem_singleton.mp hy; exact scal_thg rfl), rfl⟩⟩
          · exact ⟨_, fun _ lf => .inl ⟨n5, _, rfl, fz lf (FzT.same (sh.trans si) hn5) (hp9' f5) (ht9 f5), (fun y hy => by obtain rfl := List.mem_singleton.mp hy; exact .inr (.inl ⟨n4, [], rfl, fz lf (FzT.same ((sg.trans sh).trans si) hn4) (hp9' f4) (ht9 f4)⟩)), rfl⟩⟩
          · exact ⟨_, fun _ lf => .inl ⟨n6, _, rfl, fz lf (FzT.same si hn6) (hp9' f6) (ht9 f6), (fun y hy => by
              have e : y = .ref d := by
                rcases List.mem_cons.mp hy with h | h
                · exact h
                · exact List.mem_singleton.mp h
              rw [e]
              exact .inr (.inl ⟨d, xs, rfl, fz lf hdI pd td⟩)), rfl⟩⟩⟩
        have npll : p ≠ ll := (hp9.same ((((((sb.trans sc).trans sdd).trans se).trans sf).trans sg).trans sh)).ne nll
        have nptl : p ≠ tl := hp8.ne ntl
        refine ⟨_, rfl, p, 10, _, rfl, by decide, by decide, hpI, by omega, fun Hj wj bj hpj lj uj => ?_⟩
        obtain ⟨y, hy⟩ : ∃ y, L[wj.toNat]? = some y := ⟨L[wj.toNat]'(by omega), List.getElem?_eq_getElem _⟩
        have htj := bj _ _ nptl.symm (s9i _ _ htl)
        refine ⟨ll, L, _, y, rfl, rfl, SqL.of (bj _ _ npll.symm hL), HX.at_of (j := wj.toNat) hy (by omega), tl, _, y, rfl, rfl, htj, by show 3 < sizeLine; decide, ?_⟩
        have lf : ∀ b o, Hi b = some o → b ≠ p → b ≠ tl → upd Hj tl (.lst ([.ref d, x1, x2] ++ [y])) b = some o := fun b o h c1 c2 => by
          rw [upd_ne c2]
          exact bj b o c1 h
        have b8k : But p H8 (upd Hj tl (.lst ([.ref d, x1, x2] ++ [y]))) := fun b o c1 h => lf b o (s9i _ _ (s9 _ _ h)) c1 (ne_of_none h ntl)
        have htk : upd Hj tl (.lst ([.ref d, x1, x2] ++ [y])) tl = some (.lst [.ref d, x1, x2, y]) := upd_same
        have s0k : Same H0 (upd Hj tl (.lst ([.ref d, x1, x2] ++ [y]))) := fun b o h => lf b o (s9i _ _ (s69 _ _ h)) (ne_of_none h npH) (ne_of_none (same_but (same_but (same_but (s4.trans s45) npH b6) npH b7) npH b8 _ _ h) ntl)
        have hpk : PotOk (upd Hj tl (.lst ([.ref d, x1, x2] ++ [y]))) p (1 + 1000 * ((j + 1 : Nat) : Int)) := (hpj.put nptl).le (by omega)
        have all : ∀ x ∈ ([.ref d, x1, x2, y] : List V), ∃ r, TThg K (upd Hj tl (.lst ([.ref d, x1, x2] ++ [y]))) x r := fun x hx => by
          simp only [List.mem_cons, List.not_mem_nil, or_false] at hx
          rcases hx with rfl | rfl | rfl | rfl
          · exact ⟨_, .inl ⟨d, xs, rfl, sqT_keep (hp8.keep b8k) (FzT.sq hd8), fun y hy => (deed_thg (p := p) hD y hy).1, rfl⟩⟩
          · exact ⟨_, (TThgP.but hp8 b8k hx1').t⟩
          · exact ⟨_, (TThgP.but hp8 b8k hx2).t⟩
          · obtain ⟨r, h⟩ := tL _ (List.mem_of_getElem? hy)
            exact ⟨r, h _ lf⟩
        generalize upd Hj tl (.lst ([.ref d, x1, x2] ++ [y])) = Hk at lf b8k htk s0k hpk all
        refine ⟨_, rfl, tl, rfl, ⟨_, SqL.of htk⟩, ?_⟩
        refine for_list (xs := [.ref d, x1, x2, y]) (fun m σ H' => ∃ v7 v8, σ = [some (.ref a), some (.ref kl), v2, some (.ref p), some (.int (0 + (j : Nat))), some (.ref d), some (.ref tl), v7, v8] ∧ Same Hk H') ⟨_, _, rfl, Same.refl Hk⟩ (fun m σ H' _ z => by obtain ⟨_, _, _, s⟩ := z; exact SqL.of (s _ _ htk)) ?_ ?_
        · rintro m x σ Hm hxm ⟨v7, v8, rfl, sm⟩
          obtain ⟨r, hr0⟩ := all x (List.mem_of_getElem? hxm)
          have hr' := TThg.same sm hr0
          refine ⟨_, rfl, x, r, rfl, hr', fun Hn sn => ?_⟩
          refine ⟨_, rfl, _, _, .type "bool", .type "bool", true, rfl, .ty "bool", .base (.bl _), kt "bool" "bool" true (by decide +kernel), true, rfl, iteF ?_⟩
          refine ⟨_, rfl, _, rfl, x, r, rfl, TThg.same sn hr', fun Ho so => ⟨rfl, _, rfl, ?_⟩⟩
          rw [decide_eq_true rfl]
          exact iteF ⟨_, _, rfl, (sm.trans sn).trans so⟩
        · rintro σ Hm ⟨v7, v8, rfl, sm⟩
          exact ⟨_, _, _, _, _, _, rfl, s0k.trans sm, hpk.same sm⟩
      · rintro σ H3 ⟨v2, v4, v5, v6, v7, v8, rfl, s3, _⟩
        exact ⟨_, _, _, _, _, _, _, rfl, s3⟩
    · rintro σ H1 ⟨v2, v3, v4, v5, v6, v7, v8, rfl, s1⟩
      have e9 : (10 : Int) ^ (9 : Int).toNat = 1000000000 := by decide
      refine ⟨_, _, rfl, rfl, powW_of (a := 4) (by decide) (by decide) (by decide) (by decide), _, _, rfl, rfl, by show 3 ≤ sizeLine; decide, fun q H2 s2 nq hq => ?_⟩
      replace hq : FzT H2 q [.str "span", .int 0, .int ((10 : Int) ^ (9 : Int).toNat + 1)] := hq
      rw [e9] at hq
      have th : ∀ {Hx : Hp} {w0 : Str} {a b : Int}, ∀ y ∈ ([.str w0, .int a, .int b] : List V), Thg K Hx y := fun {Hx w0 a b} y hy => by
        simp only [List.mem_cons, List.not_mem_nil, or_false] at hy
        rcases hy with rfl | rfl | rfl <;> exact scal_thg rfl
      refine ⟨.ref q, true, rfl, .inl ⟨q, _, rfl, FzT.sq hq, th, span_all.symm⟩, fun H3 s3 => ⟨true, true, rfl, rfl, ?_⟩⟩
      refine ⟨_, rfl, iteT ?_⟩
      refine ⟨_, _, rfl, rfl, powW_of (a := 4) (by decide) (by decide) (by decide) (by decide), _, _, rfl, rfl, powW_of (a := 4) (by decide) (by decide) (by decide) (by decide), _, _, rfl, rfl, by show 3 ≤ sizeLine; decide, fun q4 H4 s4 nq4 hq4 => ?_⟩
      replace hq4 : FzT H4 q4 [.str "walk", .int ((10 : Int) ^ (9 : Int).toNat), .int ((10 : Int) ^ (9 : Int).toNat + 1)] := hq4
      rw [e9] at hq4
      refine ⟨.ref q4, true, rfl, .inl ⟨q4, _, rfl, FzT.sq hq4, th, walk_all.symm⟩, fun H5 s5 => ⟨true, true, rfl, rfl, ?_⟩⟩
      exact kq H5
end
end K22

namespace K22
open PySem PySem.Spec PyProof.Rows L2 RZ HX
def d_is_whole : He.DefD := ⟨("is_whole", none), "is_whole", "is_whole", defArgs s_is_whole, defBody s_is_whole, defScope s_is_whole, [], []⟩
def d_is_between : He.DefD := ⟨("is_between", none), "is_between", "is_between", defArgs s_is_between, defBody s_is_between, defScope s_is_between, [], []⟩
def d_is_row : He.DefD := ⟨("is_row", none), "is_row", "is_row", defArgs s_is_row, defBody s_is_row, defScope s_is_row, [], []⟩
def d_is_key : He.DefD := ⟨("is_key", none), "is_key", "is_key", defArgs s_is_key, defBody s_is_key, defScope s_is_key, [], []⟩
def d_is_value : He.DefD := ⟨("is_value", none), "is_value", "is_value", defArgs s_is_value, defBody s_is_value, defScope s_is_value, [], []⟩
def d_is_stretch : He.DefD := ⟨("is_stretch", none), "is_stretch", "is_stretch", defArgs s_is_stretch, defBody s_is_stretch, defScope s_is_stretch, [], []⟩
def d_is_deed : He.DefD := ⟨("is_deed", none), "is_deed", "is_deed", defArgs s_is_deed, defBody s_is_deed, defScope s_is_deed, [], []⟩
def d_law_pot : He.DefD := ⟨("_law_pot", none), "_law_pot", "_law_pot", defArgs s_law_pot, defBody s_law_pot, defScope s_law_pot, [], []⟩
def d_law_take : He.DefD := ⟨("_law_take", none), "_law_take", "_law_take", defArgs s_law_take, defBody s_law_take, defScope s_law_take, [], []⟩
def d_law_key : He.DefD := ⟨("_law_key", none), "_law_key", "_law_key", defArgs s_law_key, defBody s_law_key, defScope s_law_key, [], []⟩
def d_law_deed : He.DefD := ⟨("_law_deed", none), "_law_deed", "_law_deed", defArgs s_law_deed, defBody s_law_deed, defScope s_law_deed, [], []⟩
def d_law_is_deed : He.DefD := ⟨("_law_is_deed", none), "_law_is_deed", "_law_is_deed", defArgs s_law_is_deed, defBody s_law_is_deed, defScope s_law_is_deed, [], []⟩
def d_law_odd_deed : He.DefD := ⟨("_law_odd_deed", none), "_law_odd_deed", "_law_odd_deed", defArgs s_law_odd_deed, defBody s_law_odd_deed, defScope s_law_odd_deed, [], []⟩
def d_law : He.DefD := ⟨("law", none), "law", "law", defArgs s_law, defBody s_law, defScope s_law, [], []⟩
def fn : List He.DefD := [d_is_whole, d_is_between, d_is_row, d_is_key, d_is_value, d_is_stretch, d_is_deed, d_law_pot, d_law_take, d_law_key, d_law_deed, d_law_is_deed, d_law_odd_deed, d_law]
def fa : List He.Fa := [.glo "is_whole", .glo "is_between", .glo "is_row", .glo "is_key", .glo "is_value", .glo "is_stretch", .glo "is_deed", .glo "_law_pot", .glo "_law_take", .glo "_law_key", .glo "_law_deed", .glo "_law_is_deed", .glo "_law_odd_deed", .glo "law", .int "GREATEST" 1000000000, .free "abs", .free "bool", .free "int", .free "isinstance", .free "len", .free "list", .free "max", .free "min", .free "range", .free "str", .free "tuple"]
theorem tx {K : PySem.W.Frag} {h : Heap} {mg : Str → Option Value} (X : K.In h) (G : h.Ns mainGlobals mg) (c : He.SaysD fa fn K) : Nonempty (TX K mg) := by
  obtain ⟨fd_is_whole, F_is_whole⟩ := c.def_ 0 (d := d_is_whole) rfl
  obtain ⟨fd_is_between, F_is_between⟩ := c.def_ 1 (d := d_is_between) rfl
  obtain ⟨fd_is_row, F_is_row⟩ := c.def_ 2 (d := d_is_row) rfl
  obtain ⟨fd_is_key, F_is_key⟩ := c.def_ 3 (d := d_is_key) rfl
  obtain ⟨fd_is_value, F_is_value⟩ := c.def_ 4 (d := d_is_value) rfl
  obtain ⟨fd_is_stretch, F_is_stretch⟩ := c.def_ 5 (d := d_is_stretch) rfl
  obtain ⟨fd_is_deed, F_is_deed⟩ := c.def_ 6 (d := d_is_deed) rfl
  obtain ⟨fd_law_pot, F_law_pot⟩ := c.def_ 7 (d := d_law_pot) rfl
  obtain ⟨fd_law_take, F_law_take⟩ := c.def_ 8 (d := d_law_take) rfl
  obtain ⟨fd_law_key, F_law_key⟩ := c.def_ 9 (d := d_law_key) rfl
  obtain ⟨fd_law_deed, F_law_deed⟩ := c.def_ 10 (d := d_law_deed) rfl
  obtain ⟨fd_law_is_deed, F_law_is_deed⟩ := c.def_ 11 (d := d_law_is_deed) rfl
  obtain ⟨fd_law_odd_deed, F_law_odd_deed⟩ := c.def_ 12 (d := d_law_odd_deed) rfl
  obtain ⟨fd_law, F_law⟩ := c.def_ 13 (d := d_law) rfl
  exact ⟨{ fd_is_whole := fd_is_whole, F_is_whole := F_is_whole, g_is_whole := He.glo_ok X G (c.fact 0 (f := .glo "is_whole") rfl), fd_is_between := fd_is_between, F_is_between := F_is_between, g_is_between := He.glo_ok X G (c.fact 1 (f := .glo "is_between") rfl), fd_is_row := fd_is_row, F_is_row := F_is_row, g_is_row := He.glo_ok X G (c.fact 2 (f := .glo "is_row") rfl), fd_is_key := fd_is_key, F_is_key := F_is_key, g_is_key := He.glo_ok X G (c.fact 3 (f := .glo "is_key") rfl), fd_is_value := fd_is_value, F_is_value := F_is_value, g_is_value := He.glo_ok X G (c.fact 4 (f := .glo "is_value") rfl), fd_is_stretch := fd_is_stretch, F_is_stretch := F_is_stretch, g_is_stretch := He.glo_ok X G (c.fact 5 (f := .glo "is_stretch") rfl), fd_is_deed := fd_is_deed, F_is_deed := F_is_deed, g_is_deed := He.glo_ok X G (c.fact 6 (f := .glo "is_deed") rfl), fd_law_pot := fd_law_pot, F_law_pot := F_law_pot, g_law_pot := He.glo_ok X G (c.fact 7 (f := .glo "_law_pot") rfl), fd_law_take := fd_law_take, F_law_take := F_law_take, g_law_take := He.glo_ok X G (c.fact 8 (f := .glo "_law_take") rfl), fd_law_key := fd_law_key, F_law_key := F_law_key, g_law_key := He.glo_ok X G (c.fact 9 (f := .glo "_law_key") rfl), fd_law_deed := fd_law_deed, F_law_deed := F_law_deed, g_law_deed := He.glo_ok X G (c.fact 10 (f := .glo "_law_deed") rfl), fd_law_is_deed := fd_law_is_deed, F_law_is_deed := F_law_is_deed, g_law_is_deed := He.glo_ok X G (c.fact 11 (f := .glo "_law_is_deed") rfl), fd_law_odd_deed := fd_law_odd_deed, F_law_odd_deed := F_law_odd_deed, g_law_odd_deed := He.glo_ok X G (c.fact 12 (f := .glo "_law_odd_deed") rfl), fd_law := fd_law, F_law := F_law, g_law := He.glo_ok X G (c.fact 13 (f := .glo "law") rfl), g_GREATEST := He.int_ok X G (c.fact 14 (f := .int "GREATEST" 1000000000) rfl), n_abs := He.free_ok X G (c.fact 15 (f := .free "abs") rfl), n_bool := He.free_ok X G (c.fact 16 (f := .free "bool") rfl), n_int := He.free_ok X G (c.fact 17 (f := .free "int") rfl), n_isinstance := He.free_ok X G (c.fact 18 (f := .free "isinstance") rfl), n_len := He.free_ok X G (c.fact 19 (f := .free "len") rfl), n_list := He.free_ok X G (c.fact 20 (f := .free "list") rfl), n_max := He.free_ok X G (c.fact 21 (f := .free "max") rfl), n_min := He.free_ok X G (c.fact 22 (f := .free "min") rfl), n_range := He.free_ok X G (c.fact 23 (f := .free "range") rfl), n_str := He.free_ok X G (c.fact 24 (f := .free "str") rfl), n_tuple := He.free_ok X G (c.fact 25 (f := .free "tuple") rfl) }⟩
def loose : List Str := (["__name__", "GREATEST", "is_whole", "is_between", "is_row", "is_key", "is_value", "is_stretch", "is_deed", "_law_pot", "_law_take", "_law_key"] : List Str) ++ (["_law_deed", "_law_is_deed", "_law_odd_deed"] : List Str)
abbrev R : PySem.W.OpenRow := PySem.W.OpenLaw.row PySem.Challenge.rw_latchgrove_k22_deeds_known
abbrev hk : PySem.W.Hook := He.hookD 5 fa fn
def ob (s : PySem.W.SharedT) : He.AlD := He.obsDG 5 fa fn (HandSHeadRun.getT s)
theorem ob_eq (s : PySem.W.SharedT) : ob s = hk.obs s.abs := He.obsDG_eq (HandSHeadRun.getT_eq s)
theorem run (w : World) : HandSHeadRun.RunEq R (PySem.W.view R.prog [17]) hk ob 12000 loose w := by
  intro os
  kernel_rfl
end K22

open PySem PySem.W PySem.Calls PyProof.Rows
theorem PySem.Challenge.cw_latchgrove_k22_deeds_known_holds : PySem.Challenge.rw_latchgrove_k22_deeds_known.Holds := by
  w_on; o_law
  refine HandSHeadRun.head_any (r := OpenLaw.row PySem.Challenge.rw_latchgrove_k22_deeds_known) (q := view (OpenLaw.row PySem.Challenge.rw_latchgrove_k22_deeds_known).prog [17]) (H := K22.hk) (ob := K22.ob) (M := 12000) (loose := K22.loose) (d := HandSHeadRun.topDef (OpenLaw.row PySem.Challenge.rw_latchgrove_k22_deeds_known).prog 17) (kwd := []) K22.ob_eq
    (by kernel_rfl) (fun s => by kernel_rfl) K22.run (by kernel_rfl) (by kernel_rfl) (by kernel_rfl) (by rfl) (by first | assumption | decide +kernel) (by decide +kernel) ⟨rfl, rfl, rfl, rfl, rfl, by decide +kernel⟩ ?hw ?hc
  case hw => w_witness2
  case hc =>
    refine L2.walk_ofE (l := PySem.Challenge.rw_latchgrove_k22_deeds_known) (n := 63) (k := 7) (x := "script") (CX := L2.CX0) rfl (by decide) (by kernel_rfl) ⟨rfl, by decide, by decide⟩ ?F (fun _ _ _ _ z => z)
    intro w mg fa h Y G hmg0
    obtain ⟨K, KX, c⟩ := Y
    have hmg : mg ("law" : PySem.Str) = some (.ref fa) := by
      have e : (HandSHeadRun.topDef (OpenLaw.row PySem.Challenge.rw_latchgrove_k22_deeds_known).prog 17).name = ("law" : PySem.Str) := by kernel_rfl
      rw [← e]
      exact hmg0
    obtain ⟨T⟩ := K22.tx KX G c
    have e := hmg.symm.trans T.g_law
    cases e
    have b := L2.FunD.bindsA (ps := ["script"]) T.F_law fun _ _ _ _ _ _ us hl => match us, hl with | [_], _ => rfl
    exact ⟨K, T.fd_law, K22.sp_law K, KX, fun s v => b s [v] rfl, fun H a ns hl _ hS => ⟨a, ns, rfl, hS, hl, fun _ => rfl⟩, fun base _ _ => K22.ok_law T⟩

